/- Data that are alike; the document's Same tells so. -/
import Derived.Test.YtonafbennobgdaaGreatDoorK06
import Derived.Deep.RegionWith
namespace Go.Proofs.YtonafbennobgdaaGreatDoor
set_option linter.unusedVariables false
set_option linter.unusedSimpArgs false
open Go.RowKit
set_option maxRecDepth 100000
set_option maxHeartbeats 1600000
def AlikeD (g : List Dat → List Dat → Prop) (d e : Dat) : Prop :=
 d.kind = e.kind ∧ ((d.kind = 1 ∨ d.kind = 2) → d.n = e.n) ∧ (d.kind = 3 → d.name = e.name ∧ d.stamp = e.stamp ∧ d.lib = e.lib) ∧ (d.kind = 4 → g d.kids e.kids)
def Alike : Nat → List Dat → List Dat → Prop
 | 0, xs, ys => xs = [] ∧ ys = []
 | f + 1, xs, ys => xs.length = ys.length ∧ ∀ (i : Nat) (d e : Dat), xs[i]? = some d → ys[i]? = some e → AlikeD (Alike f) d e
abbrev Yes (w : World) (e : Ending) (w' : World) : Prop := e = .returned (.bool true) ∧ Below w.heap.size w w'
theorem Equal_num (k n n2 st st2 lb lb2 : Int) (nm nm2 : ByteArray) (ks ks2 : List Dat) (a a2 : Option Addr) (cap cap2 : Nat) (w : World) (hk : k = 1 ∨ k = 2) (hn : n = n2) :
 Calls Tryz.prog 13 #[dv ⟨k, n, nm, st, lb, ks⟩ a cap, dv ⟨k, n2, nm2, st2, lb2, ks2⟩ a2 cap2] w (Yes w) := by
 unfold dv
 simp only
 subst hn
 rcases hk with rfl | rfl
 ·go_enter Tryz.func13, Tryz.ntmps13
  go_wp2_with fail
  go_ret
  exact ⟨by simp, ((Below.refl _ _).alloc (Nat.le_refl _) _).alloc (by simp) _⟩
 go_enter Tryz.func13, Tryz.ntmps13
 go_wp2_with fail
 go_ret
 exact ⟨by simp, ((Below.refl _ _).alloc (Nat.le_refl _) _).alloc (by simp) _⟩
theorem Equal_sym (k n n2 st lb : Int) (nm : ByteArray) (ks ks2 : List Dat) (a a2 : Option Addr) (cap cap2 : Nat) (w : World) (hk : k = 3) :
 Calls Tryz.prog 13 #[dv ⟨k, n, nm, st, lb, ks⟩ a cap, dv ⟨k, n2, nm, st, lb, ks2⟩ a2 cap2] w (Yes w) := by
 unfold dv
 simp only
 subst hk
 go_enter Tryz.func13, Tryz.ntmps13
 go_wp2_with fail
 go_ret
 exact ⟨by simp, ((Below.refl _ _).alloc (Nat.le_refl _) _).alloc (by simp) _⟩
theorem Equal_else (k n n2 st st2 lb lb2 : Int) (nm nm2 : ByteArray) (ks ks2 : List Dat) (a a2 : Option Addr) (cap cap2 : Nat) (w : World) (k1 : k ≠ 1) (k2 : k ≠ 2) (k3 : k ≠ 3) (k4 : k ≠ 4) :
 Calls Tryz.prog 13 #[dv ⟨k, n, nm, st, lb, ks⟩ a cap, dv ⟨k, n2, nm2, st2, lb2, ks2⟩ a2 cap2] w (Yes w) := by
 unfold dv
 simp only
 have k1' : (k == 1) = false := by simpa using k1
 have k2' : (k == 2) = false := by simpa using k2
 have k3' : (k == 3) = false := by simpa using k3
 have k4' : (k == 4) = false := by simpa using k4
 clear k1 k2 k3 k4
 go_enter Tryz.func13, Tryz.ntmps13
 go_wp2_with fail
 go_ret
 exact ⟨rfl, ((Below.refl _ _).alloc (Nat.le_refl _) _).alloc (by simp) _⟩
theorem Equal_list (k n n2 st st2 lb lb2 : Int) (nm nm2 : ByteArray) (ks ks2 : List Dat) (a a2 : Option Addr) (cap cap2 : Nat) (w : World) (hk : k = 4)
 (ih : ∀ w', Below w.heap.size w w' → Calls Tryz.prog 39 #[.slice a ks.length cap, .slice a2 ks2.length cap2] w' (Yes w')) :
 Calls Tryz.prog 13 #[dv ⟨k, n, nm, st, lb, ks⟩ a cap, dv ⟨k, n2, nm2, st2, lb2, ks2⟩ a2 cap2] w (Yes w) := by
 have IH : Hid (∀ w', Below w.heap.size w w' → Calls Tryz.prog 39 #[.slice a ks.length cap, .slice a2 ks2.length cap2] w' (Yes w')) := ih
 clear ih
 unfold dv
 simp only
 subst hk
 go_enter Tryz.func13, Tryz.ntmps13
 go_wp2_with fail
 refine (IH.out _ (((Below.refl _ _).alloc (Nat.le_refl _) _).alloc (by simp) _)).mono ?_
 rintro e w1 ⟨rfl, hb⟩
 have HB : Hid (Below w.heap.size w w1) := (((Below.refl _ _).alloc (Nat.le_refl _) _).alloc (by simp) _).trans (hb.mono (by simp; omega))
 clear hb
 go_wp2_with fail
 go_ret
 exact ⟨rfl, HB.out⟩
theorem Equal_any (B f g : Nat) (d e : Dat) (a a2 : Option Addr) (cap cap2 : Nat) (w : World) (hB : B ≤ w.heap.size) (hl : Lies B w f a d.kids) (hm : Lies B w g a2 e.kids) (hx : AlikeD (Alike f) d e)
 (ih : ∀ (g : Nat) (xs ys : List Dat) (a b : Option Addr) (cap cb : Nat) (w : World), B ≤ w.heap.size → Lies B w f a xs → Lies B w g b ys → Alike f xs ys → Calls Tryz.prog 39 #[.slice a xs.length cap, .slice b ys.length cb] w (Yes w)) :
 Calls Tryz.prog 13 #[dv d a cap, dv e a2 cap2] w (Yes w) := by
 obtain ⟨k, n, nm, st, lb, ks⟩ := d
 obtain ⟨k', n2, nm2, st2, lb2, ks2⟩ := e
 obtain ⟨hk, h12, h3, h4⟩ := hx
 simp only at hk h12 h3 h4 hl hm
 subst hk
 by_cases k1 : k = 1 ∨ k = 2
 ·exact Equal_num k n n2 st st2 lb lb2 nm nm2 ks ks2 a a2 cap cap2 w k1 (h12 k1)
 by_cases k3 : k = 3
 ·obtain ⟨rfl, rfl, rfl⟩ := h3 k3
  exact Equal_sym k n n2 st lb nm ks ks2 a a2 cap cap2 w k3
 by_cases k4 : k = 4
 ·exact Equal_list k n n2 st st2 lb lb2 nm nm2 ks ks2 a a2 cap cap2 w k4 (fun w' hb => ih g ks ks2 a a2 cap cap2 w' (Nat.le_trans hB hb.size) (hl.below (hb.mono hB)) (hm.below (hb.mono hB)) (h4 k4))
 exact Equal_else k n n2 st st2 lb lb2 nm nm2 ks ks2 a a2 cap cap2 w (by omega) (by omega) k3 k4
theorem Same_none (a b : Option Addr) (cap cb : Nat) (w : World) : Calls Tryz.prog 39 #[.slice a 0 cap, .slice b 0 cb] w (Yes w) := by
 go_enter Tryz.func39, Tryz.ntmps39
 go_wp2_with fail
 go_loopw [13] (fun i wr => i = .int .i64 0 ∧ wr = w) (fun i _ => 0)
 case atStart => exact ⟨rfl, rfl⟩
 obtain ⟨rfl, rfl⟩ := hrel
 go_wp2_with fail
 go_ret
 exact ⟨rfl, Below.refl _ _⟩
theorem Same_step (B f g : Nat) (xs ys : List Dat) (a b : Option Addr) (cap cb : Nat) (w : World) (hB : B ≤ w.heap.size) (hl : Lies B w (f + 1) a xs) (hm : Lies B w g b ys) (hx : Alike (f + 1) xs ys)
 (ih : ∀ (g : Nat) (xs ys : List Dat) (a b : Option Addr) (cap cb : Nat) (w : World), B ≤ w.heap.size → Lies B w f a xs → Lies B w g b ys → Alike f xs ys → Calls Tryz.prog 39 #[.slice a xs.length cap, .slice b ys.length cb] w (Yes w)) :
 Calls Tryz.prog 39 #[.slice a xs.length cap, .slice b ys.length cb] w (Yes w) := by
 by_cases hne : xs = []
 ·have := hx.1
  subst hne
  rw [← this]
  exact Same_none a b cap cb w
 have hlen0 := hx.1
 have hney : ys ≠ [] := by
  intro e
  rw [e] at hlen0
  simp at hlen0
  exact hne hlen0
 obtain ⟨f', b1, o1, hf', ha, hb1, hall⟩ := hl.at hne
 obtain ⟨g', b2, o2, _, hb, hb2, hally⟩ := hm.at hney
 obtain rfl : f' = f := by omega
 have hmax := hl.len
 have EQ : Hid (∀ (d e : Dat) (a a2 : Option Addr) (cap cap2 : Nat) (w : World), B ≤ w.heap.size → Lies B w f' a d.kids → Lies B w g' a2 e.kids → AlikeD (Alike f') d e → Calls Tryz.prog 13 #[dv d a cap, dv e a2 cap2] w (Yes w)) :=
  fun d e a a2 cap cap2 w hB hl hm hx => Equal_any B f' g' d e a a2 cap cap2 w hB hl hm hx ih
 have HX : Hid (∀ (i : Nat) (d e : Dat), xs[i]? = some d → ys[i]? = some e → AlikeD (Alike f') d e) := hx.2
 have HALL : Hid _ := hall
 have HALY : Hid _ := hally
 subst ha hb
 rw [← hlen0]
 have HLEN : Hid (xs.length = ys.length) := hlen0
 clear hl hm hx ih hlen0 hall hally hne hney hf'
 go_enter Tryz.func39, Tryz.ntmps39
 go_wp2_with fail
 go_loopw [13] (fun i wr => ∃ j : Nat, j ≤ xs.length ∧ i = .int .i64 j ∧ Below w.heap.size w wr) (fun i _ => xs.length - (intOf i).toNat)
 case atStart => exact ⟨0, Nat.zero_le _, rfl, Below.refl _ _⟩
 obtain ⟨j, hj, rfl, hbr⟩ := hrel
 have HB : Hid (Below w.heap.size w wr) := hbr
 have hsz := hbr.size
 by_cases hlt : j < xs.length
 ·obtain ⟨d, hd⟩ : ∃ d, xs[j]? = some d := ⟨xs[j], List.getElem?_eq_getElem hlt⟩
  obtain ⟨e, he⟩ : ∃ e, ys[j]? = some e := ⟨ys[j]'(by rw [← HLEN.out]; exact hlt), List.getElem?_eq_getElem _⟩
  obtain ⟨a', cap', k0, k1, k2, k3, k4, k5, hkn, hkk⟩ := HALL.out j d hd
  obtain ⟨a2', cap2', l0, l1, l2, l3, l4, l5, hln, hlk⟩ := HALY.out j e he
  have hq : ∀ o, wr.cell? ⟨b1, o, none⟩ = w.cell? ⟨b1, o, none⟩ := fun o => hbr.cell (p := ⟨b1, o, none⟩) (Nat.lt_of_lt_of_le hb1 hB)
  have hq2 : ∀ o, wr.cell? ⟨b2, o, none⟩ = w.cell? ⟨b2, o, none⟩ := fun o => hbr.cell (p := ⟨b2, o, none⟩) (Nat.lt_of_lt_of_le hb2 hB)
  rw [← hq] at k0 k1 k2 k3 k4 k5
  rw [← hq2] at l0 l1 l2 l3 l4 l5
  have EC : Hid (∀ w', Below wr.heap.size wr w' → Calls Tryz.prog 13 #[dv d a' cap', dv e a2' cap2'] w' (Yes w')) := fun w' hb' => EQ.out d e a' a2' cap' cap2' w' (by have := hb'.size; omega) (hkk.below ((hbr.mono hB).trans (hb'.mono (by omega)))) (hlk.below ((hbr.mono hB).trans (hb'.mono (by omega)))) (HX.out j d e hd he)
  obtain ⟨dk, dn, dnm, dst, dlb, dks⟩ := d
  obtain ⟨ek, en, enm, est, elb, eks⟩ := e
  unfold dv at EC
  simp only at k0 k1 k2 k3 k4 k5 l0 l1 l2 l3 l4 l5 EC
  clear hd he hkn hkk hln hlk hq hq2 HALL HALY HX EQ hbr HLEN
  go_wp2_with fail
  go_region_with (go_at_call 13; refine (EC.out _ (by exact (Below.refl _ _).drew)).mono ?_; rintro e w1 ⟨rfl, hb1⟩; have H1 : Hid (Below w.heap.size w w1) := HB.out.trans (Below.trans (Below.refl _ _).drew (hb1.mono hsz)))
  all_goals
   clear hb1
   go_wp2_with fail
   go_roundw
   case rel => exact ⟨j + 1, by omega, by go_num, H1.out⟩
   case measure => simp [intOf]; omega
 obtain rfl : j = xs.length := by omega
 clear HALL HALY HX EQ hbr HLEN
 go_wp2_with fail
 go_ret
 exact ⟨rfl, HB.out⟩
theorem Same_any (B : Nat) : ∀ (f g : Nat) (xs ys : List Dat) (a b : Option Addr) (cap cb : Nat) (w : World), B ≤ w.heap.size → Lies B w f a xs → Lies B w g b ys → Alike f xs ys →
 Calls Tryz.prog 39 #[.slice a xs.length cap, .slice b ys.length cb] w (Yes w) := by
 intro f
 induction f with
 | zero =>
  intro g xs ys a b cap cb w hB hl hm hx
  obtain ⟨rfl, rfl⟩ := hx
  exact Same_none a b cap cb w
 | succ f ih =>
  intro g xs ys a b cap cb w hB hl hm hx
  exact Same_step B f g xs ys a b cap cb w hB hl hm hx ih
end Go.Proofs.YtonafbennobgdaaGreatDoor
