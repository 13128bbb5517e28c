/- Chapter 3: whether a name is among others; whether one of many does. -/
import Derived.Test.YtonafbennobgdaaGreatDoorK27
namespace Go.Proofs.YtonafbennobgdaaGreatDoor
set_option linter.unusedVariables false
set_option linter.unusedSimpArgs false
open Go.RowKit
set_option maxRecDepth 100000
set_option maxHeartbeats 6400000

theorem hasB_at {l : List ByteArray} {j : Nat} {y x : ByteArray} (h : l[j]? = some y) : hasB x (l.drop j) = (decide (y = x) || hasB x (l.drop (j + 1))) := by
 obtain ⟨hi, e⟩ := List.getElem?_eq_some_iff.1 h
 rw [List.drop_eq_getElem_cons hi, e]
 rfl
theorem strIndex_any (ok : Nat → Prop) (l : List ByteArray) (x : ByteArray) (v : Value) (w : World) (hl : SV ok l v w) (hn : l.length ≤ 9223372036854775807) :
  Calls Tryz.prog 158 #[v, .string x] w fun e w' => w' = w ∧ ∃ k : Int, e = .returned (.int .i64 k) ∧ decide (0 ≤ k) = hasB x l := by
 obtain ⟨a, cap, rfl, hc, hl⟩ := hl
 have HR : Hid (∀ j y, l[j]? = some y → ∃ b o, a = some ⟨b, o, none⟩ ∧ w.cell? ⟨b, o + j, none⟩ = some (.string y)) := fun j y hj => by
  rcases hl with h0 | ⟨b, o, h1, h2, h3⟩
  ·rw [h0] at hj; simp at hj
  ·exact ⟨b, o, h1, h3 j y hj⟩
 have HL : Hid (∀ j, j < l.length → ∃ d, l[j]? = some d) := fun j hj => ⟨_, List.getElem?_eq_getElem hj⟩
 obtain ⟨n, hn'⟩ : ∃ n, n = l.length := ⟨_, rfl⟩
 have HN := hidd hn'
 rw [← hn'] at HL hn ⊢
 clear hl hn' hc
 go_enter Tryz.func158, Tryz.ntmps158
 go_wp2_with fail
 go_loopw [5, 8] (fun _ ix wr => ∃ (j : Nat), j ≤ n ∧ ix = .int .i64 j ∧ Hid (wr = w ∧ hasB x l = hasB x (l.drop j))) (fun _ ix _ => n - (intOf ix).toNat)
 case atStart => exact ⟨0, Nat.zero_le _, rfl, rfl, by rw [List.drop_zero]⟩
 case round =>
  obtain ⟨j, hj, rfl, HI⟩ := hrel
  obtain ⟨rfl, he⟩ := HI.out
  have HE0 := hidd he
  clear he HI
  by_cases hlt : j < n
  ·obtain ⟨p, hp⟩ := HL.out j hlt
   obtain ⟨g, o, rfl, c0⟩ := HR.out j p hp
   have i1 : (0 : Int) ≤ (j : Int) := by omega
   have i2 : (j : Int) < (n : Int) := by omega
   have HD := hidd (hasB_at (x := x) hp)
   clear hp
   by_cases hq : p = x
   ·have c1 : (x.toList == p.toList) = true := by rw [hq]; simp
    have HE : Hid (hasB x l = true) := by show _ = _; rw [HE0.out, HD.out, decide_eq_true hq, Bool.true_or]
    clear hq
    go_wp2_with fail
    go_ret
    exact ⟨rfl, j, rfl, by rw [HE.out]; simp⟩
   ·have c1 := beqS_ne (fun h => hq h.symm)
    have HE : Hid (hasB x l = hasB x (l.drop (j + 1))) := by show _ = _; rw [HE0.out, HD.out, decide_eq_false hq, Bool.false_or]
    clear hq
    go_wp2_with fail
    go_roundw
    case rel => exact ⟨j + 1, hlt, by go_num, by first | exact trivial | rfl, HE.out⟩
    case measure => simp [intOf]; omega
  ·obtain rfl : j = n := by omega
   have HE : Hid (hasB x l = false) := by
    show _ = _
    rw [HE0.out, List.drop_eq_nil_of_le (by rw [← HN.out]; exact Nat.le_refl _)]
    rfl
   go_wp2_with fail
   go_ret
   first | exact ⟨rfl, -1, rfl, by rw [HE.out]; rfl⟩ | exact ⟨trivial, -1, rfl, by rw [HE.out]; rfl⟩
theorem strHas_any (ok : Nat → Prop) (l : List ByteArray) (x : ByteArray) (v : Value) (w : World) (hl : SV ok l v w) (hn : l.length ≤ 9223372036854775807) :
  Calls Tryz.prog 148 #[v, .string x] w fun e w' => e = .returned (.bool (hasB x l)) ∧ w' = w := by
 have HI := hidd (strIndex_any ok l x v w hl hn)
 clear hl hn
 generalize hasB x l = r at *
 go_enter Tryz.func148, Tryz.ntmps148
 go_wp2_with fail
 refine HI.out.mono ?_
 rintro e w1 ⟨rfl, k, rfl, hk⟩
 cases r
 ·go_wp2_with fail
  go_ret
  exact ⟨rfl, rfl⟩
 ·go_wp2_with fail
  go_ret
  exact ⟨rfl, rfl⟩
def anyF (g : Dat → Er Bool) : List Dat → Er Bool
 | [] => .ok false
 | x :: r => (g x).bind fun b => if b then .ok true else anyF g r
theorem holdsO_any (E : Env) : ∀ (l : List Dat), holdsO E l = anyF (holdsD E) l
 | [] => by rw [holdsO]; rfl
 | x :: r => by
  rw [holdsO, holdsO_any E r]
  rfl
theorem holdsA_any (E : Env) : ∀ (l : List Dat), holdsA E l = (anyF (fun x => (holdsD E x).bind fun b => .ok (!b)) l).bind fun b => .ok (!b)
 | [] => by rw [holdsA]; rfl
 | x :: r => by
  rw [holdsA, holdsA_any E r]
  show _ = (((holdsD E x).bind fun b => .ok (!b)).bind fun b => if b then .ok true else anyF (fun x => (holdsD E x).bind fun b => .ok (!b)) r).bind fun b => .ok (!b)
  generalize anyF (fun x => (holdsD E x).bind fun b => .ok (!b)) r = z
  cases holdsD E x with
  | no e => rfl
  | ok b => cases b <;> rfl
theorem anyF_at {g : Dat → Er Bool} {l : List Dat} {j : Nat} {x : Dat} (h : l[j]? = some x) (hl : anyF g l = anyF g (l.drop j)) : anyF g l = (g x).bind fun b => if b then .ok true else anyF g (l.drop (j + 1)) := by
 obtain ⟨hi, e⟩ := List.getElem?_eq_some_iff.1 h
 rw [hl, List.drop_eq_getElem_cons hi, e]
 rfl
theorem datIndex_150 (g : Dat → Er Bool) (B f : Nat) (ds : List Dat) (a : Option Addr) (cap qb : Nat) (w : World) (hB : B ≤ w.heap.size) (hd : Dc (fun k => k < B) w f a ds) (hn : ds.length ≤ 2000)
  (HC0 : ∀ d ∈ ds, ∀ k a' cap' W, Below w.heap.size w W → f = k + 1 → d.kids.length ≤ cap' → Dc (fun k => k < B) W k a' d.kids → Calls Tryz.prog 150 #[dv d a' cap', .pointer (some ⟨qb, 0, none⟩)] W (ToldE (g d) (fun b v _ => v = .bool b) W)) :
  Calls Tryz.prog 159 #[.slice a ds.length cap, .func (.func 150) #[] #[.pointer (some ⟨qb, 0, none⟩)]] w (ToldE (anyF g ds) (fun b v _ => ∃ k : Int, v = .int .i64 k ∧ decide (0 ≤ k) = b) w) := by
 have HD : Hid (∀ W j d, Below w.heap.size w W → ds[j]? = some d → ∃ b o a' cap' k, a = some ⟨b, o, none⟩ ∧ f = k + 1 ∧ DAt (fun k => k < B) W b (o + j * 6) d a' cap' ∧ Dc (fun k => k < B) W k a' d.kids) := fun W j d hb hj => by
  obtain ⟨k, b, o, a', cap', h0, h1, h2, h3⟩ := hd.at hj
  exact ⟨b, o, a', cap', k, h1, h0, h2.below (hb.mono hB), h3.below (hb.mono hB)⟩
 have HCO := hidd HC0
 have HL : Hid (∀ j, j < ds.length → ∃ d, ds[j]? = some d) := fun j hj => ⟨_, List.getElem?_eq_getElem hj⟩
 obtain ⟨n, hn'⟩ : ∃ n, n = ds.length := ⟨_, rfl⟩
 have HN := hidd hn'
 rw [← hn'] at hn HL ⊢
 clear hd HC0 hn'
 go_enter Tryz.func159, Tryz.ntmps159
 go_wp2_with fail
 go_loopw [5, 8] (fun _ ix wr => ∃ (j : Nat), j ≤ n ∧ ix = .int .i64 j ∧ Hid (Below w.heap.size w wr ∧ anyF g ds = anyF g (ds.drop j))) (fun _ ix _ => n - (intOf ix).toNat)
 case atStart => exact ⟨0, Nat.zero_le _, rfl, Below.refl _ _, by rw [List.drop_zero]⟩
 case round =>
  obtain ⟨j, hj, rfl, HI⟩ := hrel
  by_cases hlt : j < n
  ·obtain ⟨d, hdj⟩ := HL.out j hlt
   obtain ⟨b, o, a', cap', k0, rfl, hf0, hA, hK⟩ := HD.out wr j d HI.out.1 hdj
   obtain ⟨_, c0, c1, c2, c3, c4, c5, hnm, hlk⟩ := hA
   have i1 : (0 : Int) ≤ (j : Int) := by omega
   have i2 : (j : Int) < (n : Int) := by omega
   have CO0 := HCO.out d (List.mem_of_getElem? hdj) k0 a' cap' wr HI.out.1 hf0 hlk hK
   have hst := anyF_at hdj HI.out.2
   unfold dv at CO0
   clear hdj hK hf0 hlk hnm
   generalize d.kids.length = kn at *
   cases hg : g d with
   | no x =>
    rw [hg] at CO0 hst
    have CO : Hid (Calls Tryz.prog 150 #[.agg #[.int .i64 d.kind, .int .i64 d.n, .string d.name, .int .i64 d.stamp, .int .i64 d.lib, .slice a' kn cap'], .pointer (some ⟨qb, 0, none⟩)] wr fun e w' => Below wr.heap.size wr w' ∧ e = .panicked (thrownL x)) := CO0
    have HST : Hid (anyF g ds = .no x) := hst
    clear CO0 hst hg
    go_wp2_with fail
    refine CO.out.mono ?_
    rintro e w2 ⟨hb2, rfl⟩
    have HB2 : Hid (Below w.heap.size w w2) := HI.out.1.trans (hb2.mono HI.out.1.size)
    clear hb2
    go_wp2_with fail
    refine ⟨rfl, HB2.out, ?_⟩
    rw [HST.out]
   | ok t =>
    rw [hg] at CO0 hst
    have CO : Hid (Calls Tryz.prog 150 #[.agg #[.int .i64 d.kind, .int .i64 d.n, .string d.name, .int .i64 d.stamp, .int .i64 d.lib, .slice a' kn cap'], .pointer (some ⟨qb, 0, none⟩)] wr fun e w' => Below wr.heap.size wr w' ∧ ∃ v, e = .returned v ∧ v = .bool t) := CO0
    cases t with
    | true =>
     have HST : Hid (anyF g ds = .ok true) := hst
     clear CO0 hst hg
     go_wp2_with fail
     refine CO.out.mono ?_
     rintro e w2 ⟨hb2, v, rfl, rfl⟩
     have HB2 : Hid (Below w.heap.size w w2) := HI.out.1.trans (hb2.mono HI.out.1.size)
     clear hb2
     go_wp2_with fail
     go_ret
     refine ⟨HB2.out, ?_⟩
     rw [HST.out]
     exact ⟨_, rfl, j, rfl, by simp⟩
    | false =>
     have HST : Hid (anyF g ds = anyF g (ds.drop (j + 1))) := hst
     clear CO0 hst hg
     go_wp2_with fail
     refine CO.out.mono ?_
     rintro e w2 ⟨hb2, v, rfl, rfl⟩
     have HB2 : Hid (Below w.heap.size w w2) := HI.out.1.trans (hb2.mono HI.out.1.size)
     clear hb2
     go_wp2_with fail
     go_roundw
     case rel => exact ⟨j + 1, hlt, by go_num, HB2.out, HST.out⟩
     case measure => simp [intOf]; omega
  ·obtain rfl : j = n := by omega
   have HE : Hid (anyF g ds = .ok false) := by
    show _ = _
    rw [HI.out.2, List.drop_eq_nil_of_le (by rw [← HN.out]; exact Nat.le_refl _)]
    rfl
   go_wp2_with fail
   go_ret
   refine ⟨HI.out.1, ?_⟩
   rw [HE.out]
   exact ⟨_, rfl, -1, rfl, rfl⟩
theorem datHas_150 (r : Er Bool) (a : Option Addr) (n cap qb : Nat) (w : World) (HI0 : Calls Tryz.prog 159 #[.slice a n cap, .func (.func 150) #[] #[.pointer (some ⟨qb, 0, none⟩)]] w (ToldE r (fun b v _ => ∃ k : Int, v = .int .i64 k ∧ decide (0 ≤ k) = b) w)) :
  Calls Tryz.prog 149 #[.slice a n cap, .func (.func 150) #[] #[.pointer (some ⟨qb, 0, none⟩)]] w (ToldE r (fun b v _ => v = .bool b) w) := by
 cases r with
 | no x =>
  have HI : Hid (Calls Tryz.prog 159 #[.slice a n cap, .func (.func 150) #[] #[.pointer (some ⟨qb, 0, none⟩)]] w fun e w' => Below w.heap.size w w' ∧ e = .panicked (thrownL x)) := HI0
  clear HI0
  go_enter Tryz.func149, Tryz.ntmps149
  go_wp2_with fail
  refine HI.out.mono ?_
  rintro e w1 ⟨hb1, rfl⟩
  have HB1 := hidd hb1
  clear hb1
  go_wp2_with fail
  exact ⟨rfl, HB1.out, rfl⟩
 | ok b =>
  have HI : Hid (Calls Tryz.prog 159 #[.slice a n cap, .func (.func 150) #[] #[.pointer (some ⟨qb, 0, none⟩)]] w fun e w' => Below w.heap.size w w' ∧ ∃ v, e = .returned v ∧ ∃ k : Int, v = .int .i64 k ∧ decide (0 ≤ k) = b) := HI0
  clear HI0
  go_enter Tryz.func149, Tryz.ntmps149
  go_wp2_with fail
  refine HI.out.mono ?_
  rintro e w1 ⟨hb1, v, rfl, k, rfl, hk⟩
  have HB1 := hidd hb1
  clear hb1
  cases b
  ·go_wp2_with fail
   go_ret
   exact ⟨HB1.out, _, rfl, rfl⟩
  ·go_wp2_with fail
   go_ret
   exact ⟨HB1.out, _, rfl, rfl⟩
theorem clos_150 (r : Er Bool) (d : Dat) (a : Option Addr) (cap qb pb : Nat) (w : World) (hq : w.cell? ⟨qb, 0, none⟩ = some (.pointer (some ⟨pb, 0, none⟩))) (hql : qb < w.heap.size)
  (HH0 : ∀ W, Below w.heap.size w W → Calls Tryz.prog 133 #[.pointer (some ⟨pb, 0, none⟩), dv d a cap] W (ToldE r (fun b v _ => v = .bool b) W)) :
  Calls Tryz.prog 150 #[dv d a cap, .pointer (some ⟨qb, 0, none⟩)] w (ToldE (r.bind fun b => .ok (!b)) (fun b v _ => v = .bool b) w) := by
 have hb : Below w.heap.size w (w.alloc (.cells #[.int .i64 d.kind, .int .i64 d.n, .string d.name, .int .i64 d.stamp, .int .i64 d.lib, .slice a d.kids.length cap] 26)) := (Below.refl _ _).alloc (Nat.le_refl _) _
 have q0 : (w.alloc (.cells #[.int .i64 d.kind, .int .i64 d.n, .string d.name, .int .i64 d.stamp, .int .i64 d.lib, .slice a d.kids.length cap] 26)).cell? ⟨qb, 0, none⟩ = some (.pointer (some ⟨pb, 0, none⟩)) := (hb.cell (p := ⟨qb, 0, none⟩) hql).trans hq
 have HB := hidd hb
 unfold dv at *
 clear hb hq hql
 generalize d.kids.length = kn at *
 cases r with
 | no x =>
  have HH : Hid (∀ W, Below w.heap.size w W → Calls Tryz.prog 133 #[.pointer (some ⟨pb, 0, none⟩), .agg #[.int .i64 d.kind, .int .i64 d.n, .string d.name, .int .i64 d.stamp, .int .i64 d.lib, .slice a kn cap]] W fun e w' => Below W.heap.size W w' ∧ e = .panicked (thrownL x)) := HH0
  clear HH0
  go_enter Tryz.func150, Tryz.ntmps150
  go_wp2_with fail
  refine (HH.out _ HB.out).mono ?_
  rintro e w1 ⟨hb1, rfl⟩
  have HB1 : Hid (Below w.heap.size w w1) := HB.out.trans (hb1.mono HB.out.size)
  clear hb1
  go_wp2_with fail
  exact ⟨rfl, HB1.out, rfl⟩
 | ok b =>
  have HH : Hid (∀ W, Below w.heap.size w W → Calls Tryz.prog 133 #[.pointer (some ⟨pb, 0, none⟩), .agg #[.int .i64 d.kind, .int .i64 d.n, .string d.name, .int .i64 d.stamp, .int .i64 d.lib, .slice a kn cap]] W fun e w' => Below W.heap.size W w' ∧ ∃ v, e = .returned v ∧ v = .bool b) := HH0
  clear HH0
  go_enter Tryz.func150, Tryz.ntmps150
  go_wp2_with fail
  refine (HH.out _ HB.out).mono ?_
  rintro e w1 ⟨hb1, v, rfl, rfl⟩
  have HB1 : Hid (Below w.heap.size w w1) := HB.out.trans (hb1.mono HB.out.size)
  clear hb1
  go_wp2_with fail
  go_ret
  exact ⟨HB1.out, _, rfl, rfl⟩
theorem datIndex_151 (g : Dat → Er Bool) (B f : Nat) (ds : List Dat) (a : Option Addr) (cap qb : Nat) (w : World) (hB : B ≤ w.heap.size) (hd : Dc (fun k => k < B) w f a ds) (hn : ds.length ≤ 2000)
  (HC0 : ∀ d ∈ ds, ∀ k a' cap' W, Below w.heap.size w W → f = k + 1 → d.kids.length ≤ cap' → Dc (fun k => k < B) W k a' d.kids → Calls Tryz.prog 151 #[dv d a' cap', .pointer (some ⟨qb, 0, none⟩)] W (ToldE (g d) (fun b v _ => v = .bool b) W)) :
  Calls Tryz.prog 159 #[.slice a ds.length cap, .func (.func 151) #[] #[.pointer (some ⟨qb, 0, none⟩)]] w (ToldE (anyF g ds) (fun b v _ => ∃ k : Int, v = .int .i64 k ∧ decide (0 ≤ k) = b) w) := by
 have HD : Hid (∀ W j d, Below w.heap.size w W → ds[j]? = some d → ∃ b o a' cap' k, a = some ⟨b, o, none⟩ ∧ f = k + 1 ∧ DAt (fun k => k < B) W b (o + j * 6) d a' cap' ∧ Dc (fun k => k < B) W k a' d.kids) := fun W j d hb hj => by
  obtain ⟨k, b, o, a', cap', h0, h1, h2, h3⟩ := hd.at hj
  exact ⟨b, o, a', cap', k, h1, h0, h2.below (hb.mono hB), h3.below (hb.mono hB)⟩
 have HCO := hidd HC0
 have HL : Hid (∀ j, j < ds.length → ∃ d, ds[j]? = some d) := fun j hj => ⟨_, List.getElem?_eq_getElem hj⟩
 obtain ⟨n, hn'⟩ : ∃ n, n = ds.length := ⟨_, rfl⟩
 have HN := hidd hn'
 rw [← hn'] at hn HL ⊢
 clear hd HC0 hn'
 go_enter Tryz.func159, Tryz.ntmps159
 go_wp2_with fail
 go_loopw [5, 8] (fun _ ix wr => ∃ (j : Nat), j ≤ n ∧ ix = .int .i64 j ∧ Hid (Below w.heap.size w wr ∧ anyF g ds = anyF g (ds.drop j))) (fun _ ix _ => n - (intOf ix).toNat)
 case atStart => exact ⟨0, Nat.zero_le _, rfl, Below.refl _ _, by rw [List.drop_zero]⟩
 case round =>
  obtain ⟨j, hj, rfl, HI⟩ := hrel
  by_cases hlt : j < n
  ·obtain ⟨d, hdj⟩ := HL.out j hlt
   obtain ⟨b, o, a', cap', k0, rfl, hf0, hA, hK⟩ := HD.out wr j d HI.out.1 hdj
   obtain ⟨_, c0, c1, c2, c3, c4, c5, hnm, hlk⟩ := hA
   have i1 : (0 : Int) ≤ (j : Int) := by omega
   have i2 : (j : Int) < (n : Int) := by omega
   have CO0 := HCO.out d (List.mem_of_getElem? hdj) k0 a' cap' wr HI.out.1 hf0 hlk hK
   have hst := anyF_at hdj HI.out.2
   unfold dv at CO0
   clear hdj hK hf0 hlk hnm
   generalize d.kids.length = kn at *
   cases hg : g d with
   | no x =>
    rw [hg] at CO0 hst
    have CO : Hid (Calls Tryz.prog 151 #[.agg #[.int .i64 d.kind, .int .i64 d.n, .string d.name, .int .i64 d.stamp, .int .i64 d.lib, .slice a' kn cap'], .pointer (some ⟨qb, 0, none⟩)] wr fun e w' => Below wr.heap.size wr w' ∧ e = .panicked (thrownL x)) := CO0
    have HST : Hid (anyF g ds = .no x) := hst
    clear CO0 hst hg
    go_wp2_with fail
    refine CO.out.mono ?_
    rintro e w2 ⟨hb2, rfl⟩
    have HB2 : Hid (Below w.heap.size w w2) := HI.out.1.trans (hb2.mono HI.out.1.size)
    clear hb2
    go_wp2_with fail
    refine ⟨rfl, HB2.out, ?_⟩
    rw [HST.out]
   | ok t =>
    rw [hg] at CO0 hst
    have CO : Hid (Calls Tryz.prog 151 #[.agg #[.int .i64 d.kind, .int .i64 d.n, .string d.name, .int .i64 d.stamp, .int .i64 d.lib, .slice a' kn cap'], .pointer (some ⟨qb, 0, none⟩)] wr fun e w' => Below wr.heap.size wr w' ∧ ∃ v, e = .returned v ∧ v = .bool t) := CO0
    cases t with
    | true =>
     have HST : Hid (anyF g ds = .ok true) := hst
     clear CO0 hst hg
     go_wp2_with fail
     refine CO.out.mono ?_
     rintro e w2 ⟨hb2, v, rfl, rfl⟩
     have HB2 : Hid (Below w.heap.size w w2) := HI.out.1.trans (hb2.mono HI.out.1.size)
     clear hb2
     go_wp2_with fail
     go_ret
     refine ⟨HB2.out, ?_⟩
     rw [HST.out]
     exact ⟨_, rfl, j, rfl, by simp⟩
    | false =>
     have HST : Hid (anyF g ds = anyF g (ds.drop (j + 1))) := hst
     clear CO0 hst hg
     go_wp2_with fail
     refine CO.out.mono ?_
     rintro e w2 ⟨hb2, v, rfl, rfl⟩
     have HB2 : Hid (Below w.heap.size w w2) := HI.out.1.trans (hb2.mono HI.out.1.size)
     clear hb2
     go_wp2_with fail
     go_roundw
     case rel => exact ⟨j + 1, hlt, by go_num, HB2.out, HST.out⟩
     case measure => simp [intOf]; omega
  ·obtain rfl : j = n := by omega
   have HE : Hid (anyF g ds = .ok false) := by
    show _ = _
    rw [HI.out.2, List.drop_eq_nil_of_le (by rw [← HN.out]; exact Nat.le_refl _)]
    rfl
   go_wp2_with fail
   go_ret
   refine ⟨HI.out.1, ?_⟩
   rw [HE.out]
   exact ⟨_, rfl, -1, rfl, rfl⟩
theorem datHas_151 (r : Er Bool) (a : Option Addr) (n cap qb : Nat) (w : World) (HI0 : Calls Tryz.prog 159 #[.slice a n cap, .func (.func 151) #[] #[.pointer (some ⟨qb, 0, none⟩)]] w (ToldE r (fun b v _ => ∃ k : Int, v = .int .i64 k ∧ decide (0 ≤ k) = b) w)) :
  Calls Tryz.prog 149 #[.slice a n cap, .func (.func 151) #[] #[.pointer (some ⟨qb, 0, none⟩)]] w (ToldE r (fun b v _ => v = .bool b) w) := by
 cases r with
 | no x =>
  have HI : Hid (Calls Tryz.prog 159 #[.slice a n cap, .func (.func 151) #[] #[.pointer (some ⟨qb, 0, none⟩)]] w fun e w' => Below w.heap.size w w' ∧ e = .panicked (thrownL x)) := HI0
  clear HI0
  go_enter Tryz.func149, Tryz.ntmps149
  go_wp2_with fail
  refine HI.out.mono ?_
  rintro e w1 ⟨hb1, rfl⟩
  have HB1 := hidd hb1
  clear hb1
  go_wp2_with fail
  exact ⟨rfl, HB1.out, rfl⟩
 | ok b =>
  have HI : Hid (Calls Tryz.prog 159 #[.slice a n cap, .func (.func 151) #[] #[.pointer (some ⟨qb, 0, none⟩)]] w fun e w' => Below w.heap.size w w' ∧ ∃ v, e = .returned v ∧ ∃ k : Int, v = .int .i64 k ∧ decide (0 ≤ k) = b) := HI0
  clear HI0
  go_enter Tryz.func149, Tryz.ntmps149
  go_wp2_with fail
  refine HI.out.mono ?_
  rintro e w1 ⟨hb1, v, rfl, k, rfl, hk⟩
  have HB1 := hidd hb1
  clear hb1
  cases b
  ·go_wp2_with fail
   go_ret
   exact ⟨HB1.out, _, rfl, rfl⟩
  ·go_wp2_with fail
   go_ret
   exact ⟨HB1.out, _, rfl, rfl⟩
theorem clos_151 (r : Er Bool) (d : Dat) (a : Option Addr) (cap qb pb : Nat) (w : World) (hq : w.cell? ⟨qb, 0, none⟩ = some (.pointer (some ⟨pb, 0, none⟩))) (hql : qb < w.heap.size)
  (HH0 : ∀ W, Below w.heap.size w W → Calls Tryz.prog 133 #[.pointer (some ⟨pb, 0, none⟩), dv d a cap] W (ToldE r (fun b v _ => v = .bool b) W)) :
  Calls Tryz.prog 151 #[dv d a cap, .pointer (some ⟨qb, 0, none⟩)] w (ToldE (r.bind fun b => .ok b) (fun b v _ => v = .bool b) w) := by
 have hb : Below w.heap.size w (w.alloc (.cells #[.int .i64 d.kind, .int .i64 d.n, .string d.name, .int .i64 d.stamp, .int .i64 d.lib, .slice a d.kids.length cap] 26)) := (Below.refl _ _).alloc (Nat.le_refl _) _
 have q0 : (w.alloc (.cells #[.int .i64 d.kind, .int .i64 d.n, .string d.name, .int .i64 d.stamp, .int .i64 d.lib, .slice a d.kids.length cap] 26)).cell? ⟨qb, 0, none⟩ = some (.pointer (some ⟨pb, 0, none⟩)) := (hb.cell (p := ⟨qb, 0, none⟩) hql).trans hq
 have HB := hidd hb
 unfold dv at *
 clear hb hq hql
 generalize d.kids.length = kn at *
 cases r with
 | no x =>
  have HH : Hid (∀ W, Below w.heap.size w W → Calls Tryz.prog 133 #[.pointer (some ⟨pb, 0, none⟩), .agg #[.int .i64 d.kind, .int .i64 d.n, .string d.name, .int .i64 d.stamp, .int .i64 d.lib, .slice a kn cap]] W fun e w' => Below W.heap.size W w' ∧ e = .panicked (thrownL x)) := HH0
  clear HH0
  go_enter Tryz.func151, Tryz.ntmps151
  go_wp2_with fail
  refine (HH.out _ HB.out).mono ?_
  rintro e w1 ⟨hb1, rfl⟩
  have HB1 : Hid (Below w.heap.size w w1) := HB.out.trans (hb1.mono HB.out.size)
  clear hb1
  go_wp2_with fail
  exact ⟨rfl, HB1.out, rfl⟩
 | ok b =>
  have HH : Hid (∀ W, Below w.heap.size w W → Calls Tryz.prog 133 #[.pointer (some ⟨pb, 0, none⟩), .agg #[.int .i64 d.kind, .int .i64 d.n, .string d.name, .int .i64 d.stamp, .int .i64 d.lib, .slice a kn cap]] W fun e w' => Below W.heap.size W w' ∧ ∃ v, e = .returned v ∧ v = .bool b) := HH0
  clear HH0
  go_enter Tryz.func151, Tryz.ntmps151
  go_wp2_with fail
  refine (HH.out _ HB.out).mono ?_
  rintro e w1 ⟨hb1, v, rfl, rfl⟩
  have HB1 : Hid (Below w.heap.size w w1) := HB.out.trans (hb1.mono HB.out.size)
  clear hb1
  go_wp2_with fail
  go_ret
  exact ⟨HB1.out, _, rfl, rfl⟩

end Go.Proofs.YtonafbennobgdaaGreatDoor
