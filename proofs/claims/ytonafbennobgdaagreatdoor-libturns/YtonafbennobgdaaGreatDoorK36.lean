/- Data: whether they are the same; the document's Equal and Same tell so. -/
import Derived.Test.YtonafbennobgdaaGreatDoorK35
import Derived.Test.YtonafbennobgdaaGreatDoorK10
namespace Go.Proofs.YtonafbennobgdaaGreatDoor
set_option linter.unusedVariables false
set_option linter.unusedSimpArgs false
open Go.RowKit
set_option maxRecDepth 100000
set_option maxHeartbeats 1600000

mutual
def sameD : Dat → Dat → Bool
 | ⟨k, n, nm, st, lb, ks⟩, e => if k ≠ e.kind then false else if k = 1 ∨ k = 2 then decide (n = e.n) else if k = 3 then decide (nm = e.name) && decide (st = e.stamp) && decide (lb = e.lib) else if k = 4 then sameL ks e.kids else true
def sameL : List Dat → List Dat → Bool
 | [], ys => ys.isEmpty
 | d :: r, ys => match ys with
  | [] => false
  | e :: s => sameD d e && sameL r s
end
theorem sameL_cons (d e : Dat) (r s : List Dat) : sameL (d :: r) (e :: s) = (sameD d e && sameL r s) := by rw [sameL]
theorem sameL_len : ∀ (xs ys : List Dat), xs.length ≠ ys.length → sameL xs ys = false
 | [], ys, h => by
  rw [sameL]
  cases ys with
  | nil => simp at h
  | cons e s => rfl
 | d :: r, [], h => by rw [sameL]
 | d :: r, e :: s, h => by
  rw [sameL_cons, sameL_len r s (by simpa using h)]
  simp
theorem sameL_drop {xs ys : List Dat} {j : Nat} {d e : Dat} (hd : xs[j]? = some d) (he : ys[j]? = some e) : sameL (xs.drop j) (ys.drop j) = (sameD d e && sameL (xs.drop (j + 1)) (ys.drop (j + 1))) := by
 obtain ⟨h1, e1⟩ := List.getElem?_eq_some_iff.1 hd
 obtain ⟨h2, e2⟩ := List.getElem?_eq_some_iff.1 he
 rw [List.drop_eq_getElem_cons h1, List.drop_eq_getElem_cons h2, e1, e2, sameL_cons]
abbrev Ans (b : Bool) (w : World) (e : Ending) (w' : World) : Prop := e = .returned (.bool b) ∧ Below w.heap.size w w'

theorem EqualN_kind (k k2 n n2 st st2 lb lb2 : Int) (nm nm2 : ByteArray) (ks ks2 : List Dat) (a a2 : Option Addr) (cap cap2 : Nat) (w : World) (hk : k ≠ k2) :
  Calls Tryz.prog 13 #[dv ⟨k, n, nm, st, lb, ks⟩ a cap, dv ⟨k2, n2, nm2, st2, lb2, ks2⟩ a2 cap2] w (Ans false w) := by
 unfold dv
 simp only
 have hk' : (k != k2) = true := by simpa using hk
 clear hk
 go_enter Tryz.func13, Tryz.ntmps13
 go_wp2_with fail
 go_ret
 exact ⟨rfl, ((Below.refl _ _).alloc (Nat.le_refl _) _).alloc (by simp) _⟩
theorem EqualN_num (k n n2 st st2 lb lb2 : Int) (nm nm2 : ByteArray) (ks ks2 : List Dat) (a a2 : Option Addr) (cap cap2 : Nat) (w : World) (hk : k = 1 ∨ k = 2) (hn : n ≠ n2) :
  Calls Tryz.prog 13 #[dv ⟨k, n, nm, st, lb, ks⟩ a cap, dv ⟨k, n2, nm2, st2, lb2, ks2⟩ a2 cap2] w (Ans false w) := by
 unfold dv
 simp only
 have hn' : (n == n2) = false := by simpa using hn
 clear hn
 rcases hk with rfl | rfl
 ·go_enter Tryz.func13, Tryz.ntmps13
  go_wp2_with fail
  go_ret
  exact ⟨rfl, ((Below.refl _ _).alloc (Nat.le_refl _) _).alloc (by simp) _⟩
 ·go_enter Tryz.func13, Tryz.ntmps13
  go_wp2_with fail
  go_ret
  exact ⟨rfl, ((Below.refl _ _).alloc (Nat.le_refl _) _).alloc (by simp) _⟩
theorem EqualN_sym (k n n2 st st2 lb lb2 : Int) (nm nm2 : ByteArray) (ks ks2 : List Dat) (a a2 : Option Addr) (cap cap2 : Nat) (w : World) (hk : k = 3) (hn : ¬ (nm = nm2 ∧ st = st2 ∧ lb = lb2)) :
  Calls Tryz.prog 13 #[dv ⟨k, n, nm, st, lb, ks⟩ a cap, dv ⟨k, n2, nm2, st2, lb2, ks2⟩ a2 cap2] w (Ans false w) := by
 unfold dv
 simp only
 subst hk
 by_cases h1 : nm = nm2
 ·subst h1
  have e1 : (nm.toList == nm.toList) = true := by simp
  by_cases h2 : st = st2
  ·subst h2
   have h3 : lb ≠ lb2 := fun e => hn ⟨rfl, rfl, e⟩
   have e3 : (lb == lb2) = false := by simpa using h3
   clear hn h3
   go_enter Tryz.func13, Tryz.ntmps13
   go_wp2_with fail
   go_ret
   exact ⟨by simp [e3], ((Below.refl _ _).alloc (Nat.le_refl _) _).alloc (by simp) _⟩
  ·have e2 : (st == st2) = false := by simpa using h2
   clear hn h2
   go_enter Tryz.func13, Tryz.ntmps13
   go_wp2_with fail
   go_ret
   exact ⟨by simp, ((Below.refl _ _).alloc (Nat.le_refl _) _).alloc (by simp) _⟩
 ·have e1 := beqS_ne h1
  clear hn h1
  go_enter Tryz.func13, Tryz.ntmps13
  go_wp2_with fail
  go_ret
  exact ⟨by simp, ((Below.refl _ _).alloc (Nat.le_refl _) _).alloc (by simp) _⟩
theorem EqualB_list (k n n2 st st2 lb lb2 : Int) (nm nm2 : ByteArray) (ks ks2 : List Dat) (a a2 : Option Addr) (cap cap2 : Nat) (w : World) (q : Bool) (hk : k = 4)
  (ih : ∀ w', Below w.heap.size w w' → Calls Tryz.prog 39 #[.slice a ks.length cap, .slice a2 ks2.length cap2] w' (Ans q w')) :
  Calls Tryz.prog 13 #[dv ⟨k, n, nm, st, lb, ks⟩ a cap, dv ⟨k, n2, nm2, st2, lb2, ks2⟩ a2 cap2] w (Ans q w) := by
 have IH : Hid (∀ w', Below w.heap.size w w' → Calls Tryz.prog 39 #[.slice a ks.length cap, .slice a2 ks2.length cap2] w' (Ans q w')) := ih
 clear ih
 unfold dv
 simp only
 subst hk
 go_enter Tryz.func13, Tryz.ntmps13
 go_wp2_with fail
 refine (IH.out _ (((Below.refl _ _).alloc (Nat.le_refl _) _).alloc (by simp) _)).mono ?_
 rintro e w1 ⟨rfl, hb⟩
 have HB : Hid (Below w.heap.size w w1) := (((Below.refl _ _).alloc (Nat.le_refl _) _).alloc (by simp) _).trans (hb.mono (by simp; omega))
 clear hb
 go_wp2_with fail
 go_ret
 exact ⟨rfl, HB.out⟩
theorem EqualB_any (B f g : Nat) (d e : Dat) (a a2 : Option Addr) (cap cap2 : Nat) (w : World) (hB : B ≤ w.heap.size) (hl : Lies B w f a d.kids) (hm : Lies B w g a2 e.kids)
  (ih : ∀ (g : Nat) (xs ys : List Dat) (a b : Option Addr) (cap cb : Nat) (w : World), B ≤ w.heap.size → Lies B w f a xs → Lies B w g b ys → Calls Tryz.prog 39 #[.slice a xs.length cap, .slice b ys.length cb] w (Ans (sameL xs ys) w)) :
  Calls Tryz.prog 13 #[dv d a cap, dv e a2 cap2] w (Ans (sameD d e) w) := by
 obtain ⟨k, n, nm, st, lb, ks⟩ := d
 obtain ⟨k', n2, nm2, st2, lb2, ks2⟩ := e
 simp only at hl hm
 rw [sameD]
 simp only
 by_cases hk : k = k'
 ·subst hk
  rw [if_neg (by simp)]
  by_cases k1 : k = 1 ∨ k = 2
  ·rw [if_pos k1]
   by_cases hn : n = n2
   ·rw [decide_eq_true hn]
    exact Equal_num k n n2 st st2 lb lb2 nm nm2 ks ks2 a a2 cap cap2 w k1 hn
   ·rw [decide_eq_false hn]
    exact EqualN_num k n n2 st st2 lb lb2 nm nm2 ks ks2 a a2 cap cap2 w k1 hn
  rw [if_neg k1]
  by_cases k3 : k = 3
  ·rw [if_pos k3]
   by_cases hn : nm = nm2 ∧ st = st2 ∧ lb = lb2
   ·obtain ⟨rfl, rfl, rfl⟩ := hn
    simp only [decide_true, Bool.and_self]
    exact Equal_sym k n n2 st lb nm ks ks2 a a2 cap cap2 w k3
   ·have e : (decide (nm = nm2) && decide (st = st2) && decide (lb = lb2)) = false := by
     simp only [Bool.and_eq_false_iff, decide_eq_false_iff_not]
     by_cases h1 : nm = nm2
     ·by_cases h2 : st = st2
      ·exact Or.inr (fun h3 => hn ⟨h1, h2, h3⟩)
      ·exact Or.inl (Or.inr h2)
     ·exact Or.inl (Or.inl h1)
    rw [e]
    exact EqualN_sym k n n2 st st2 lb lb2 nm nm2 ks ks2 a a2 cap cap2 w k3 hn
  rw [if_neg k3]
  by_cases k4 : k = 4
  ·rw [if_pos k4]
   exact EqualB_list k n n2 st st2 lb lb2 nm nm2 ks ks2 a a2 cap cap2 w _ k4 (fun w' hb => ih g ks ks2 a a2 cap cap2 w' (Nat.le_trans hB hb.size) (hl.below (hb.mono hB)) (hm.below (hb.mono hB)))
  ·rw [if_neg k4]
   exact Equal_else k n n2 st st2 lb lb2 nm nm2 ks ks2 a a2 cap cap2 w (by omega) (by omega) k3 k4
 ·rw [if_pos hk]
  exact EqualN_kind k k' n n2 st st2 lb lb2 nm nm2 ks ks2 a a2 cap cap2 w hk
theorem SameN_len (a b : Option Addr) (n m cap cb : Nat) (w : World) (h : n ≠ m) : Calls Tryz.prog 39 #[.slice a n cap, .slice b m cb] w (Ans false w) := by
 have h' : ((n : Int) != (m : Int)) = true := by simpa using (by omega : ¬ (n : Int) = (m : Int))
 clear h
 go_enter Tryz.func39, Tryz.ntmps39
 go_wp2_with fail
 go_ret
 exact ⟨rfl, Below.refl _ _⟩
theorem SameB_step (B f g : Nat) (xs ys : List Dat) (a b : Option Addr) (cap cb : Nat) (w : World) (hB : B ≤ w.heap.size) (hl : Lies B w (f + 1) a xs) (hm : Lies B w g b ys) (hlen0 : xs.length = ys.length)
  (ih : ∀ (g : Nat) (xs ys : List Dat) (a b : Option Addr) (cap cb : Nat) (w : World), B ≤ w.heap.size → Lies B w f a xs → Lies B w g b ys → Calls Tryz.prog 39 #[.slice a xs.length cap, .slice b ys.length cb] w (Ans (sameL xs ys) w)) :
  Calls Tryz.prog 39 #[.slice a xs.length cap, .slice b ys.length cb] w (Ans (sameL xs ys) w) := by
 by_cases hne : xs = []
 ·subst hne
  have hy : ys = [] := List.eq_nil_of_length_eq_zero (by rw [← hlen0]; rfl)
  subst hy
  exact Same_none a b cap cb w
 have hney : ys ≠ [] := by
  intro e
  rw [e] at hlen0
  simp at hlen0
  exact hne hlen0
 obtain ⟨f', b1, o1, hf', ha, hb1, hall⟩ := hl.at hne
 obtain ⟨g', b2, o2, _, hb, hb2, hally⟩ := hm.at hney
 obtain rfl : f' = f := by omega
 have hmax := hl.len
 have EQ : Hid (∀ (d e : Dat) (a a2 : Option Addr) (cap cap2 : Nat) (w : World), B ≤ w.heap.size → Lies B w f' a d.kids → Lies B w g' a2 e.kids → Calls Tryz.prog 13 #[dv d a cap, dv e a2 cap2] w (Ans (sameD d e) w)) :=
  fun d e a a2 cap cap2 w hB hl hm => EqualB_any B f' g' d e a a2 cap cap2 w hB hl hm ih
 have HALL : Hid _ := hall
 have HALY : Hid _ := hally
 subst ha hb
 rw [← hlen0]
 have HLEN : Hid (xs.length = ys.length) := hlen0
 obtain ⟨q, hq⟩ : ∃ q, q = sameL xs ys := ⟨_, rfl⟩
 rw [← hq]
 have HQ := hidd hq
 clear hl hm ih hlen0 hall hally hne hney hf' hq
 go_enter Tryz.func39, Tryz.ntmps39
 go_wp2_with fail
 go_loopw [13] (fun i wr => ∃ j : Nat, j ≤ xs.length ∧ i = .int .i64 j ∧ Hid (Below w.heap.size w wr ∧ q = sameL (xs.drop j) (ys.drop j))) (fun i _ => xs.length - (intOf i).toNat)
 case atStart => exact ⟨0, Nat.zero_le _, rfl, Below.refl _ _, HQ.out⟩
 case round =>
  clear HQ
  obtain ⟨j, hj, rfl, HR⟩ := hrel
  have hbr := HR.out.1
  have HB : Hid (Below w.heap.size w wr) := hbr
  have hsz := hbr.size
  by_cases hlt : j < xs.length
  ·obtain ⟨d, hd⟩ : ∃ d, xs[j]? = some d := ⟨xs[j], List.getElem?_eq_getElem hlt⟩
   obtain ⟨e, he⟩ : ∃ e, ys[j]? = some e := ⟨ys[j]'(by rw [← HLEN.out]; exact hlt), List.getElem?_eq_getElem _⟩
   have HQ2 := hidd (HR.out.2.trans (sameL_drop hd he))
   obtain ⟨a', cap', k0, k1, k2, k3, k4, k5, hkn, hkk⟩ := HALL.out j d hd
   obtain ⟨a2', cap2', l0, l1, l2, l3, l4, l5, hln, hlk⟩ := HALY.out j e he
   have hq : ∀ o, wr.cell? ⟨b1, o, none⟩ = w.cell? ⟨b1, o, none⟩ := fun o => hbr.cell (p := ⟨b1, o, none⟩) (Nat.lt_of_lt_of_le hb1 hB)
   have hq2 : ∀ o, wr.cell? ⟨b2, o, none⟩ = w.cell? ⟨b2, o, none⟩ := fun o => hbr.cell (p := ⟨b2, o, none⟩) (Nat.lt_of_lt_of_le hb2 hB)
   rw [← hq] at k0 k1 k2 k3 k4 k5
   rw [← hq2] at l0 l1 l2 l3 l4 l5
   have EC : Hid (∀ w', Below wr.heap.size wr w' → Calls Tryz.prog 13 #[dv d a' cap', dv e a2' cap2'] w' (Ans (sameD d e) w')) := fun w' hb' => EQ.out d e a' a2' cap' cap2' w' (by have := hb'.size; omega) (hkk.below ((hbr.mono hB).trans (hb'.mono (by omega)))) (hlk.below ((hbr.mono hB).trans (hb'.mono (by omega))))
   generalize sameD d e = qd at EC HQ2
   obtain ⟨dk, dn, dnm, dst, dlb, dks⟩ := d
   obtain ⟨ek, en, enm, est, elb, eks⟩ := e
   unfold dv at EC
   simp only at k0 k1 k2 k3 k4 k5 l0 l1 l2 l3 l4 l5 EC
   clear hd he hkn hkk hln hlk hq hq2 HALL HALY EQ hbr HLEN HR
   cases qd
   ·have hq0 : q = false := by rw [HQ2.out]; rfl
    subst hq0
    go_wp2_with fail
    go_region_with (go_at_call 13; refine (EC.out _ (by exact (Below.refl _ _).drew)).mono ?_; rintro e w1 ⟨rfl, hb1⟩; have H1 : Hid (Below w.heap.size w w1) := HB.out.trans (Below.trans (Below.refl _ _).drew (hb1.mono hsz)))
    all_goals
     clear hb1
     go_wp2_with fail
     go_ret
     exact ⟨rfl, H1.out⟩
   ·have HQ3 : Hid (q = sameL (xs.drop (j + 1)) (ys.drop (j + 1))) := by unfold Hid; rw [HQ2.out]; rfl
    clear HQ2
    go_wp2_with fail
    go_region_with (go_at_call 13; refine (EC.out _ (by exact (Below.refl _ _).drew)).mono ?_; rintro e w1 ⟨rfl, hb1⟩; have H1 : Hid (Below w.heap.size w w1) := HB.out.trans (Below.trans (Below.refl _ _).drew (hb1.mono hsz)))
    all_goals
     clear hb1
     go_wp2_with fail
     go_roundw
     case rel => exact ⟨j + 1, by omega, by go_num, H1.out, HQ3.out⟩
     case measure => simp [intOf]; omega
  ·obtain rfl : j = xs.length := by omega
   have hq1 : q = true := by
    rw [HR.out.2, List.drop_of_length_le (Nat.le_refl _), List.drop_of_length_le (by rw [HLEN.out]; exact Nat.le_refl _)]
    rfl
   subst hq1
   clear HALL HALY EQ hbr HLEN HR
   go_wp2_with fail
   go_ret
   exact ⟨rfl, HB.out⟩
theorem SameB_any (B : Nat) : ∀ (f g : Nat) (xs ys : List Dat) (a b : Option Addr) (cap cb : Nat) (w : World), B ≤ w.heap.size → Lies B w f a xs → Lies B w g b ys →
  Calls Tryz.prog 39 #[.slice a xs.length cap, .slice b ys.length cb] w (Ans (sameL xs ys) w) := by
 intro f
 induction f with
 | zero =>
  intro g xs ys a b cap cb w hB hl hm
  have hx : xs = [] := hl
  subst hx
  by_cases hy : ys = []
  ·subst hy
   exact Same_none a b cap cb w
  ·rw [sameL_len [] ys (fun e => hy (List.eq_nil_of_length_eq_zero e.symm))]
   exact SameN_len a b _ _ cap cb w (fun e => hy (List.eq_nil_of_length_eq_zero e.symm))
 | succ f ih =>
  intro g xs ys a b cap cb w hB hl hm
  by_cases hlen : xs.length = ys.length
  ·exact SameB_step B f g xs ys a b cap cb w hB hl hm hlen ih
  ·rw [sameL_len xs ys hlen]
   exact SameN_len a b _ _ cap cb w hlen
end Go.Proofs.YtonafbennobgdaaGreatDoor
