/- Instructions: package code's last. What the maker has in memory. -/
import Derived.Test.YtfmanhkeclogfaaGreatDoorK15
namespace Go.Proofs.YtfmanhkeclogfaaGreatDoor
section
set_option linter.unusedVariables false
set_option linter.unusedSimpArgs false
open Go.RowKit

/-- What is told of an instruction that was made. -/
def ToldI (i : In) (w : World) (e : Ending) (w' : World) : Prop :=
  Below w.heap.size w w' ∧ ∃ qa qc f, e = .returned (iv i qa qc) ∧ i.quote.kids.length ≤ qc ∧ Dc (New w w') w' f qa i.quote.kids

set_option maxRecDepth 100000 in
set_option maxHeartbeats 1600000 in
theorem last_any (B f b o : Nat) (c : Cor) (w : World) (hc : Cn B w f b o c) (hB : B ≤ w.heap.size) (hlb : c.lib.size ≤ 281474976710656) (how : c.own.size ≤ 281474976710656) (hq : c.kind = 3 → smQ c.quote) :
    Calls Tryz.prog 104 #[.pointer (some ⟨b, o, none⟩)] w (ToldI (lastI c) w) := by
  obtain ⟨hb, qa, qc, ka, kc, nc, ok, hqd, hk⟩ := hc
  obtain ⟨c0, c1, c2, c3, c4, c5, c6, c7, c8, c9, c10, c11⟩ := nc
  have hlen := hk.len
  have hbw : b < w.heap.size := Nat.lt_of_lt_of_le hb hB
  have HQ := hidd hq
  have HB : Hid (Below w.heap.size w (w.alloc (.cells #[.int .i64 0, .int .i64 0, .int .i64 0, .string ⟨#[]⟩, .string ⟨#[]⟩, .int .i64 0, .int .i64 0, .string ⟨#[]⟩, .int .i64 0, .int .i64 0, .slice none 0 0] 52))) := (Below.refl _ _).alloc (Nat.le_refl _) _
  have RB := hidd (World.alloc_heap_new w (.cells #[.int .i64 0, .int .i64 0, .int .i64 0, .string ⟨#[]⟩, .string ⟨#[]⟩, .int .i64 0, .int .i64 0, .string ⟨#[]⟩, .int .i64 0, .int .i64 0, .slice none 0 0] 52))
  clear hq ok hk hb
  obtain ⟨k, i, n, lb, ow, q, ks⟩ := c
  simp only at c0 c1 c2 c3 c4 c5 c6 c7 c8 c9 c10 c11 hlb how HQ hlen hqd
  by_cases k1 : k = 1
  · subst k1
    rw [show lastI ⟨1, i, n, lb, ow, q, ks⟩ = insN 1 n by simp [lastI]]
    go_enter Tryz.func104, Tryz.ntmps104
    go_wp2_with fail
    exact bodyPost_ret (ret40 (World.alloc_heap_new w _) rfl) rfl ⟨(Below.refl _ _).alloc (Nat.le_refl _) _, none, 0, 0, rfl, Nat.le_refl _, rfl⟩
  by_cases k2 : k = 2
  · subst k2
    rw [show lastI ⟨2, i, n, lb, ow, q, ks⟩ = insN 2 n by simp [lastI]]
    go_enter Tryz.func104, Tryz.ntmps104
    go_wp2_with fail
    exact bodyPost_ret (ret40 (World.alloc_heap_new w _) rfl) rfl ⟨(Below.refl _ _).alloc (Nat.le_refl _) _, none, 0, 0, rfl, Nat.le_refl _, rfl⟩
  by_cases k3 : k = 3
  · subst k3
    rw [show lastI ⟨3, i, n, lb, ow, q, ks⟩ = { insO 3 with quote := bareQ q } by simp [lastI]]
    have BQ : Hid (Calls Tryz.prog 124 #[.agg #[.int .i64 q.kind, .int .i64 q.n, .string q.name, .int .i64 q.stamp, .int .i64 q.lib, .slice qa q.kids.length qc]] (w.alloc (.cells #[.int .i64 0, .int .i64 0, .int .i64 0, .string ⟨#[]⟩, .string ⟨#[]⟩, .int .i64 0, .int .i64 0, .string ⟨#[]⟩, .int .i64 0, .int .i64 0, .slice none 0 0] 52)) (ToldB (bareQ q) (w.alloc (.cells #[.int .i64 0, .int .i64 0, .int .i64 0, .string ⟨#[]⟩, .string ⟨#[]⟩, .int .i64 0, .int .i64 0, .string ⟨#[]⟩, .int .i64 0, .int .i64 0, .slice none 0 0] 52)))) := Bare_any f q qa qc _ (Dn.lift (Dc.stay (fun _ _ => rfl) (fun k hk => Nat.lt_of_lt_of_le hk hB) _ _ _ hqd) HB.out) (HQ.out (by trivial))
    generalize bareQ q = rq at BQ ⊢
    go_enter Tryz.func104, Tryz.ntmps104
    go_wp2_with fail
    refine BQ.out.mono ?_
    rintro e w1 ⟨hb1, a2, cap2, f2, rfl, hcap2, hdc2⟩
    have hb2 : Hid (Below w.heap.size w w1) := HB.out.trans (hb1.mono HB.out.size)
    have RB1 := hidd ((hb1.block _ (Array.getElem?_eq_some_iff.1 RB.out).1).trans RB.out)
    have HB1 := hb2
    have HD : Hid (rq.kids.length ≤ cap2 ∧ Dc (New w w1) w1 f2 a2 rq.kids ∧ ∀ b, New w w1 b → True) := ⟨hcap2, Dc.stay (fun _ _ => rfl) (fun k hk => ⟨by have := hk.1; simp at this; omega, hk.2⟩) _ _ _ hdc2, fun _ _ => trivial⟩
    have HD3 : Hid (Dc (fun b => w.heap.size + 1 ≤ b ∧ b < w1.heap.size) w1 f2 a2 rq.kids) := Dc.stay (fun _ _ => rfl) (fun k hk => ⟨by have := hk.1; simpa using this, hk.2⟩) _ _ _ hdc2
    unfold dv
    simp only
    have cc : ∀ q, w1.cell? ⟨w.heap.size, q, none⟩ = #[.int .i64 0, .int .i64 0, .int .i64 0, .string ⟨#[]⟩, .string ⟨#[]⟩, .int .i64 0, .int .i64 0, .string ⟨#[]⟩, .int .i64 0, .int .i64 0, .slice none 0 0][q]? := fun q => by simp [World.cell?, RB1.out]
    have q0 := cc 0
    have q1 := cc 1
    have q2 := cc 2
    have q3 := cc 3
    have q4 := cc 4
    have q5 := cc 5
    have q6 := cc 6
    have q7 := cc 7
    have q8 := cc 8
    have q9 := cc 9
    have q10 := cc 10
    have qz : ∀ q, w1.frozen? ⟨w.heap.size, q, none⟩ = false := fun q => by simp [World.frozen?, RB1.out]
    simp at q0 q1 q2 q3 q4 q5 q6 q7 q8 q9 q10
    clear cc
    clear hb1 hcap2 hdc2 c0 c1 c2 c3 c4 c5 c6 c7 c8 c9 c10 c11
    go_wp2_with fail
    have END := hidd (fill11_heap RB1.out (.int .i64 3) (.int .i64 0) (.int .i64 0) (.string ⟨#[]⟩) (.string ⟨#[]⟩) (.int .i64 rq.kind) (.int .i64 rq.n) (.string rq.name) (.int .i64 rq.stamp) (.int .i64 rq.lib) (.slice a2 rq.kids.length cap2))
    have hke := fill11_keep w1 w.heap.size (.int .i64 3) (.int .i64 0) (.int .i64 0) (.string ⟨#[]⟩) (.string ⟨#[]⟩) (.int .i64 rq.kind) (.int .i64 rq.n) (.string rq.name) (.int .i64 rq.stamp) (.int .i64 rq.lib) (.slice a2 rq.kids.length cap2)
    have BE : Hid (Below w.heap.size w (fill11 w1 w.heap.size (.int .i64 3) (.int .i64 0) (.int .i64 0) (.string ⟨#[]⟩) (.string ⟨#[]⟩) (.int .i64 rq.kind) (.int .i64 rq.n) (.string rq.name) (.int .i64 rq.stamp) (.int .i64 rq.lib) (.slice a2 rq.kids.length cap2))) := HB1.out.trans (hke.toBelow (Nat.le_refl _) HB1.out.size)
    change bodyPost _ _ _ _ _ (fill11 w1 w.heap.size (.int .i64 3) (.int .i64 0) (.int .i64 0) (.string ⟨#[]⟩) (.string ⟨#[]⟩) (.int .i64 rq.kind) (.int .i64 rq.n) (.string rq.name) (.int .i64 rq.stamp) (.int .i64 rq.lib) (.slice a2 rq.kids.length cap2))
    clear q0 q1 q2 q3 q4 q5 q6 q7 q8 q9 q10 qz
    refine bodyPost_ret (ret40 END.out rfl) rfl ⟨BE.out, a2, cap2, f2, rfl, HD.out.1, ?_⟩
    exact Dc.stay (fun k hk => hke.block k hk.2 (by simp; have := hk.1; omega)) (fun k hk => ⟨by have := hk.1; omega, Nat.lt_of_lt_of_le hk.2 hke.size⟩) _ _ _ HD3.out
  by_cases k4 : k = 4
  · subst k4
    rw [show lastI ⟨4, i, n, lb, ow, q, ks⟩ = insA 4 i by simp [lastI]]
    go_enter Tryz.func104, Tryz.ntmps104
    go_wp2_with fail
    exact bodyPost_ret (ret40 (World.alloc_heap_new w _) rfl) rfl ⟨(Below.refl _ _).alloc (Nat.le_refl _) _, none, 0, 0, rfl, Nat.le_refl _, rfl⟩
  by_cases k10 : k = 10
  · subst k10
    rw [show lastI ⟨10, i, n, lb, ow, q, ks⟩ = insA 11 i by simp [lastI]]
    go_enter Tryz.func104, Tryz.ntmps104
    go_wp2_with fail
    exact bodyPost_ret (ret40 (World.alloc_heap_new w _) rfl) rfl ⟨(Below.refl _ _).alloc (Nat.le_refl _) _, none, 0, 0, rfl, Nat.le_refl _, rfl⟩
  by_cases k5 : k = 5
  · subst k5
    rw [show lastI ⟨5, i, n, lb, ow, q, ks⟩ = insG 5 lb ow by simp [lastI]]
    have NM := hidd (named_any 5 b o lb ow (w.alloc (.cells #[.int .i64 0, .int .i64 0, .int .i64 0, .string ⟨#[]⟩, .string ⟨#[]⟩, .int .i64 0, .int .i64 0, .string ⟨#[]⟩, .int .i64 0, .int .i64 0, .slice none 0 0] 52)) (Nat.lt_of_lt_of_le hbw HB.out.size) ((HB.out.cell (p := ⟨b, o + 3, none⟩) hbw).trans c3) ((HB.out.cell (p := ⟨b, o + 4, none⟩) hbw).trans c4) hlb how)
    go_enter Tryz.func104, Tryz.ntmps104
    go_wp2_with fail
    refine NM.out.mono ?_
    rintro e w1 ⟨rfl, hb1⟩
    have hb2 : Hid (Below w.heap.size w w1) := HB.out.trans (hb1.mono HB.out.size)
    have RB1 := hidd ((hb1.block _ (Array.getElem?_eq_some_iff.1 RB.out).1).trans RB.out)
    have HB1 := hb2
    have cc : ∀ q, w1.cell? ⟨w.heap.size, q, none⟩ = #[.int .i64 0, .int .i64 0, .int .i64 0, .string ⟨#[]⟩, .string ⟨#[]⟩, .int .i64 0, .int .i64 0, .string ⟨#[]⟩, .int .i64 0, .int .i64 0, .slice none 0 0][q]? := fun q => by simp [World.cell?, RB1.out]
    have q0 := cc 0
    have q1 := cc 1
    have q2 := cc 2
    have q3 := cc 3
    have q4 := cc 4
    have q5 := cc 5
    have q6 := cc 6
    have q7 := cc 7
    have q8 := cc 8
    have q9 := cc 9
    have q10 := cc 10
    have qz : ∀ q, w1.frozen? ⟨w.heap.size, q, none⟩ = false := fun q => by simp [World.frozen?, RB1.out]
    simp at q0 q1 q2 q3 q4 q5 q6 q7 q8 q9 q10
    clear cc
    clear hb1 c0 c1 c2 c3 c4 c5 c6 c7 c8 c9 c10 c11
    go_wp2_with fail
    have END := hidd (fill11_heap RB1.out (.int .i64 5) (.int .i64 0) (.int .i64 0) (.string lb) (.string ow) (.int .i64 0) (.int .i64 0) (.string ⟨#[]⟩) (.int .i64 0) (.int .i64 0) (.slice none 0 0))
    have hke := fill11_keep w1 w.heap.size (.int .i64 5) (.int .i64 0) (.int .i64 0) (.string lb) (.string ow) (.int .i64 0) (.int .i64 0) (.string ⟨#[]⟩) (.int .i64 0) (.int .i64 0) (.slice none 0 0)
    have BE : Hid (Below w.heap.size w (fill11 w1 w.heap.size (.int .i64 5) (.int .i64 0) (.int .i64 0) (.string lb) (.string ow) (.int .i64 0) (.int .i64 0) (.string ⟨#[]⟩) (.int .i64 0) (.int .i64 0) (.slice none 0 0))) := HB1.out.trans (hke.toBelow (Nat.le_refl _) HB1.out.size)
    change bodyPost _ _ _ _ _ (fill11 w1 w.heap.size (.int .i64 5) (.int .i64 0) (.int .i64 0) (.string lb) (.string ow) (.int .i64 0) (.int .i64 0) (.string ⟨#[]⟩) (.int .i64 0) (.int .i64 0) (.slice none 0 0))
    clear q0 q1 q2 q3 q4 q5 q6 q7 q8 q9 q10 qz
    exact bodyPost_ret (ret40 END.out rfl) rfl ⟨BE.out, none, 0, 0, rfl, Nat.le_refl _, rfl⟩
  by_cases k11 : k = 11
  · subst k11
    rw [show lastI ⟨11, i, n, lb, ow, q, ks⟩ = insG 12 lb ow by simp [lastI]]
    have NM := hidd (named_any 12 b o lb ow (w.alloc (.cells #[.int .i64 0, .int .i64 0, .int .i64 0, .string ⟨#[]⟩, .string ⟨#[]⟩, .int .i64 0, .int .i64 0, .string ⟨#[]⟩, .int .i64 0, .int .i64 0, .slice none 0 0] 52)) (Nat.lt_of_lt_of_le hbw HB.out.size) ((HB.out.cell (p := ⟨b, o + 3, none⟩) hbw).trans c3) ((HB.out.cell (p := ⟨b, o + 4, none⟩) hbw).trans c4) hlb how)
    go_enter Tryz.func104, Tryz.ntmps104
    go_wp2_with fail
    refine NM.out.mono ?_
    rintro e w1 ⟨rfl, hb1⟩
    have hb2 : Hid (Below w.heap.size w w1) := HB.out.trans (hb1.mono HB.out.size)
    have RB1 := hidd ((hb1.block _ (Array.getElem?_eq_some_iff.1 RB.out).1).trans RB.out)
    have HB1 := hb2
    have cc : ∀ q, w1.cell? ⟨w.heap.size, q, none⟩ = #[.int .i64 0, .int .i64 0, .int .i64 0, .string ⟨#[]⟩, .string ⟨#[]⟩, .int .i64 0, .int .i64 0, .string ⟨#[]⟩, .int .i64 0, .int .i64 0, .slice none 0 0][q]? := fun q => by simp [World.cell?, RB1.out]
    have q0 := cc 0
    have q1 := cc 1
    have q2 := cc 2
    have q3 := cc 3
    have q4 := cc 4
    have q5 := cc 5
    have q6 := cc 6
    have q7 := cc 7
    have q8 := cc 8
    have q9 := cc 9
    have q10 := cc 10
    have qz : ∀ q, w1.frozen? ⟨w.heap.size, q, none⟩ = false := fun q => by simp [World.frozen?, RB1.out]
    simp at q0 q1 q2 q3 q4 q5 q6 q7 q8 q9 q10
    clear cc
    clear hb1 c0 c1 c2 c3 c4 c5 c6 c7 c8 c9 c10 c11
    go_wp2_with fail
    have END := hidd (fill11_heap RB1.out (.int .i64 12) (.int .i64 0) (.int .i64 0) (.string lb) (.string ow) (.int .i64 0) (.int .i64 0) (.string ⟨#[]⟩) (.int .i64 0) (.int .i64 0) (.slice none 0 0))
    have hke := fill11_keep w1 w.heap.size (.int .i64 12) (.int .i64 0) (.int .i64 0) (.string lb) (.string ow) (.int .i64 0) (.int .i64 0) (.string ⟨#[]⟩) (.int .i64 0) (.int .i64 0) (.slice none 0 0)
    have BE : Hid (Below w.heap.size w (fill11 w1 w.heap.size (.int .i64 12) (.int .i64 0) (.int .i64 0) (.string lb) (.string ow) (.int .i64 0) (.int .i64 0) (.string ⟨#[]⟩) (.int .i64 0) (.int .i64 0) (.slice none 0 0))) := HB1.out.trans (hke.toBelow (Nat.le_refl _) HB1.out.size)
    change bodyPost _ _ _ _ _ (fill11 w1 w.heap.size (.int .i64 12) (.int .i64 0) (.int .i64 0) (.string lb) (.string ow) (.int .i64 0) (.int .i64 0) (.string ⟨#[]⟩) (.int .i64 0) (.int .i64 0) (.slice none 0 0))
    clear q0 q1 q2 q3 q4 q5 q6 q7 q8 q9 q10 qz
    exact bodyPost_ret (ret40 END.out rfl) rfl ⟨BE.out, none, 0, 0, rfl, Nat.le_refl _, rfl⟩
  by_cases k13 : k = 13
  · subst k13
    rw [show lastI ⟨13, i, n, lb, ow, q, ks⟩ = insG 13 lb ow by simp [lastI]]
    have NM := hidd (named_any 13 b o lb ow (w.alloc (.cells #[.int .i64 0, .int .i64 0, .int .i64 0, .string ⟨#[]⟩, .string ⟨#[]⟩, .int .i64 0, .int .i64 0, .string ⟨#[]⟩, .int .i64 0, .int .i64 0, .slice none 0 0] 52)) (Nat.lt_of_lt_of_le hbw HB.out.size) ((HB.out.cell (p := ⟨b, o + 3, none⟩) hbw).trans c3) ((HB.out.cell (p := ⟨b, o + 4, none⟩) hbw).trans c4) hlb how)
    go_enter Tryz.func104, Tryz.ntmps104
    go_wp2_with fail
    refine NM.out.mono ?_
    rintro e w1 ⟨rfl, hb1⟩
    have hb2 : Hid (Below w.heap.size w w1) := HB.out.trans (hb1.mono HB.out.size)
    have RB1 := hidd ((hb1.block _ (Array.getElem?_eq_some_iff.1 RB.out).1).trans RB.out)
    have HB1 := hb2
    have cc : ∀ q, w1.cell? ⟨w.heap.size, q, none⟩ = #[.int .i64 0, .int .i64 0, .int .i64 0, .string ⟨#[]⟩, .string ⟨#[]⟩, .int .i64 0, .int .i64 0, .string ⟨#[]⟩, .int .i64 0, .int .i64 0, .slice none 0 0][q]? := fun q => by simp [World.cell?, RB1.out]
    have q0 := cc 0
    have q1 := cc 1
    have q2 := cc 2
    have q3 := cc 3
    have q4 := cc 4
    have q5 := cc 5
    have q6 := cc 6
    have q7 := cc 7
    have q8 := cc 8
    have q9 := cc 9
    have q10 := cc 10
    have qz : ∀ q, w1.frozen? ⟨w.heap.size, q, none⟩ = false := fun q => by simp [World.frozen?, RB1.out]
    simp at q0 q1 q2 q3 q4 q5 q6 q7 q8 q9 q10
    clear cc
    clear hb1 c0 c1 c2 c3 c4 c5 c6 c7 c8 c9 c10 c11
    go_wp2_with fail
    have END := hidd (fill11_heap RB1.out (.int .i64 13) (.int .i64 0) (.int .i64 0) (.string lb) (.string ow) (.int .i64 0) (.int .i64 0) (.string ⟨#[]⟩) (.int .i64 0) (.int .i64 0) (.slice none 0 0))
    have hke := fill11_keep w1 w.heap.size (.int .i64 13) (.int .i64 0) (.int .i64 0) (.string lb) (.string ow) (.int .i64 0) (.int .i64 0) (.string ⟨#[]⟩) (.int .i64 0) (.int .i64 0) (.slice none 0 0)
    have BE : Hid (Below w.heap.size w (fill11 w1 w.heap.size (.int .i64 13) (.int .i64 0) (.int .i64 0) (.string lb) (.string ow) (.int .i64 0) (.int .i64 0) (.string ⟨#[]⟩) (.int .i64 0) (.int .i64 0) (.slice none 0 0))) := HB1.out.trans (hke.toBelow (Nat.le_refl _) HB1.out.size)
    change bodyPost _ _ _ _ _ (fill11 w1 w.heap.size (.int .i64 13) (.int .i64 0) (.int .i64 0) (.string lb) (.string ow) (.int .i64 0) (.int .i64 0) (.string ⟨#[]⟩) (.int .i64 0) (.int .i64 0) (.slice none 0 0))
    clear q0 q1 q2 q3 q4 q5 q6 q7 q8 q9 q10 qz
    exact bodyPost_ret (ret40 END.out rfl) rfl ⟨BE.out, none, 0, 0, rfl, Nat.le_refl _, rfl⟩
  by_cases k6 : k = 6
  · subst k6
    rw [show lastI ⟨6, i, n, lb, ow, q, ks⟩ = insG 6 ⟨#[]⟩ ow by simp [lastI]]
    have NM := hidd (Clone_any ow (w.alloc (.cells #[.int .i64 0, .int .i64 0, .int .i64 0, .string ⟨#[]⟩, .string ⟨#[]⟩, .int .i64 0, .int .i64 0, .string ⟨#[]⟩, .int .i64 0, .int .i64 0, .slice none 0 0] 52)) how)
    go_enter Tryz.func104, Tryz.ntmps104
    go_wp2_with fail
    refine NM.out.mono ?_
    rintro e w1 ⟨rfl, hb1⟩
    have hb2 : Hid (Below w.heap.size w w1) := HB.out.trans (hb1.mono HB.out.size)
    have RB1 := hidd ((hb1.block _ (Array.getElem?_eq_some_iff.1 RB.out).1).trans RB.out)
    have HB1 := hb2
    have cc : ∀ q, w1.cell? ⟨w.heap.size, q, none⟩ = #[.int .i64 0, .int .i64 0, .int .i64 0, .string ⟨#[]⟩, .string ⟨#[]⟩, .int .i64 0, .int .i64 0, .string ⟨#[]⟩, .int .i64 0, .int .i64 0, .slice none 0 0][q]? := fun q => by simp [World.cell?, RB1.out]
    have q0 := cc 0
    have q1 := cc 1
    have q2 := cc 2
    have q3 := cc 3
    have q4 := cc 4
    have q5 := cc 5
    have q6 := cc 6
    have q7 := cc 7
    have q8 := cc 8
    have q9 := cc 9
    have q10 := cc 10
    have qz : ∀ q, w1.frozen? ⟨w.heap.size, q, none⟩ = false := fun q => by simp [World.frozen?, RB1.out]
    simp at q0 q1 q2 q3 q4 q5 q6 q7 q8 q9 q10
    clear cc
    clear hb1 c0 c1 c2 c3 c4 c5 c6 c7 c8 c9 c10 c11
    go_wp2_with fail
    have END := hidd (fill11_heap RB1.out (.int .i64 6) (.int .i64 0) (.int .i64 0) (.string ⟨#[]⟩) (.string ow) (.int .i64 0) (.int .i64 0) (.string ⟨#[]⟩) (.int .i64 0) (.int .i64 0) (.slice none 0 0))
    have hke := fill11_keep w1 w.heap.size (.int .i64 6) (.int .i64 0) (.int .i64 0) (.string ⟨#[]⟩) (.string ow) (.int .i64 0) (.int .i64 0) (.string ⟨#[]⟩) (.int .i64 0) (.int .i64 0) (.slice none 0 0)
    have BE : Hid (Below w.heap.size w (fill11 w1 w.heap.size (.int .i64 6) (.int .i64 0) (.int .i64 0) (.string ⟨#[]⟩) (.string ow) (.int .i64 0) (.int .i64 0) (.string ⟨#[]⟩) (.int .i64 0) (.int .i64 0) (.slice none 0 0))) := HB1.out.trans (hke.toBelow (Nat.le_refl _) HB1.out.size)
    change bodyPost _ _ _ _ _ (fill11 w1 w.heap.size (.int .i64 6) (.int .i64 0) (.int .i64 0) (.string ⟨#[]⟩) (.string ow) (.int .i64 0) (.int .i64 0) (.string ⟨#[]⟩) (.int .i64 0) (.int .i64 0) (.slice none 0 0))
    clear q0 q1 q2 q3 q4 q5 q6 q7 q8 q9 q10 qz
    exact bodyPost_ret (ret40 END.out rfl) rfl ⟨BE.out, none, 0, 0, rfl, Nat.le_refl _, rfl⟩
  rw [show lastI ⟨k, i, n, lb, ow, q, ks⟩ = insA 8 ((ks.length : Int) - 1) by simp [lastI, k1, k2, k3, k4, k10, k5, k11, k13, k6]]
  have j1 : (k == 1) = false := by simpa using k1
  have j2 : (k == 2) = false := by simpa using k2
  have j3 : (k == 3) = false := by simpa using k3
  have j4 : (k == 4) = false := by simpa using k4
  have j10 : (k == 10) = false := by simpa using k10
  have j5 : (k == 5) = false := by simpa using k5
  have j11 : (k == 11) = false := by simpa using k11
  have j13 : (k == 13) = false := by simpa using k13
  have j6 : (k == 6) = false := by simpa using k6
  clear k1 k2 k3 k4 k10 k5 k11 k13 k6
  go_enter Tryz.func104, Tryz.ntmps104
  go_wp2_with fail
  exact bodyPost_ret (ret40 (World.alloc_heap_new w _) rfl) rfl ⟨(Below.refl _ _).alloc (Nat.le_refl _) _, none, 0, 0, rfl, Nat.le_refl _, rfl⟩
end
section
set_option linter.unusedVariables false
set_option linter.unusedSimpArgs false
open Go.RowKit

/-- An instruction, and where what it quotes lies. -/
structure IE where
  i : In
  qa : Option Addr
  qc : Nat
def IE.cells (e : IE) : List Value := (ic e.i (.slice e.qa e.i.quote.kids.length e.qc)).toList
def flatI (es : List IE) : List Value := es.flatMap IE.cells
theorem IE.len (e : IE) : e.cells.length = 11 := rfl
theorem flatI_cons (e : IE) (r : List IE) : flatI (e :: r) = e.cells ++ flatI r := by simp [flatI]
theorem flatI_append (a b : List IE) : flatI (a ++ b) = flatI a ++ flatI b := by simp [flatI]
theorem flatI_len : ∀ (es : List IE), (flatI es).length = es.length * 11
  | [] => rfl
  | e :: r => by rw [flatI_cons, List.length_append, e.len, flatI_len r, List.length_cons]; omega
theorem IE.one (e : IE) : ∀ u ∈ e.cells, u.oneCell' = true := by
  intro u hu
  simp [IE.cells, ic] at hu
  rcases hu with rfl | rfl | rfl | rfl | rfl | rfl | rfl | rfl | rfl | rfl | rfl <;> rfl
/-- A procedure, and where its code lies. -/
structure PE where
  args : Int
  es : List IE
  a : Option Addr
  c : Nat
def PE.cells (p : PE) : List Value := [.int .i64 p.args, .slice p.a p.es.length p.c]
def flatP (ps : List PE) : List Value := ps.flatMap PE.cells
theorem flatP_cons (e : PE) (r : List PE) : flatP (e :: r) = e.cells ++ flatP r := by simp [flatP]
theorem flatP_append (a b : List PE) : flatP (a ++ b) = flatP a ++ flatP b := by simp [flatP]
theorem flatP_len : ∀ (es : List PE), (flatP es).length = es.length * 2
  | [] => rfl
  | e :: r => by rw [flatP_cons, List.length_append, flatP_len r, List.length_cons]; simp [PE.cells]; omega
def PE.pro (p : PE) : Pro := ⟨p.args, p.es.map IE.i⟩

def IE.Ok (ok : Nat → Prop) (w : World) (e : IE) : Prop :=
  e.i.lib.size ≤ maxLen ∧ e.i.own.size ≤ maxLen ∧ e.i.quote.name.size ≤ maxLen ∧ e.i.quote.kids.length ≤ e.qc ∧ ∃ f, Dc ok w f e.qa e.i.quote.kids
theorem IE.Ok.stay {ok ok' : Nat → Prop} {w w' : World} {e : IE} (h : e.Ok ok w) (hw : ∀ k, ok k → w'.heap[k]? = w.heap[k]?) (ho : ∀ k, ok k → ok' k) : e.Ok ok' w' := by
  obtain ⟨h1, h2, h3, h4, f, h5⟩ := h
  exact ⟨h1, h2, h3, h4, f, Dc.stay hw ho f _ _ h5⟩
def PE.Ok (ok : Nat → Prop) (w : World) (p : PE) : Prop :=
  p.es.length ≤ p.c ∧ (p.es = [] ∨ ∃ b, p.a = some ⟨b, 0, none⟩ ∧ ok b ∧ ∀ j u, (flatI p.es)[j]? = some u → w.cell? ⟨b, j, none⟩ = some u) ∧ ∀ e ∈ p.es, e.Ok ok w
theorem PE.Ok.stay {ok ok' : Nat → Prop} {w w' : World} {p : PE} (h : p.Ok ok w) (hw : ∀ k, ok k → w'.heap[k]? = w.heap[k]?) (ho : ∀ k, ok k → ok' k) : p.Ok ok' w' := by
  obtain ⟨h1, h2, h3⟩ := h
  refine ⟨h1, ?_, fun e he => (h3 e he).stay hw ho⟩
  rcases h2 with h2 | ⟨b, ha, hb, h2⟩
  · exact Or.inl h2
  · exact Or.inr ⟨b, ha, ho b hb, fun j u hu => (World.cell?_of_block (a := ⟨b, j, none⟩) (hw b hb)).trans (h2 j u hu)⟩

/-- A block that is none of the maker's. -/
def Fr (T M : Nat) (tv pv : Value) (b : Nat) : Prop := b ≠ T ∧ b ≠ M ∧ some b ≠ tv.ownBlock ∧ some b ≠ pv.ownBlock
/-- THE MAKER AT WORK: a tape in box T, procedures in box M. -/
structure MK (B : Nat) (X : Nat → Prop) (T M : Nat) (tv pv : Value) (is : List IE) (ps : List PE) (w : World) : Prop where
  tb : w.heap[T]? = some (.cells #[tv] 165 (0, 0))
  mb : w.heap[M]? = some (.cells #[pv] 86 (0, 0))
  tm : T ≠ M
  bt : B ≤ T
  bm : B ≤ M
  tr : w.ownsRow B 52 11 tv is.length (flatI is)
  pr : w.ownsRow B 47 2 pv ps.length (flatP ps)
  s1 : tv.ownBlock ≠ some T
  s2 : tv.ownBlock ≠ some M
  s3 : pv.ownBlock ≠ some T
  s4 : pv.ownBlock ≠ some M
  s5 : ∀ g, tv.ownBlock = some g → pv.ownBlock ≠ some g
  xlt : ∀ b, X b → b < w.heap.size
  xt : ∀ g, tv.ownBlock = some g → ¬ X g
  ti : ∀ e ∈ is, e.Ok (fun b => b < w.heap.size ∧ Fr T M tv pv b ∧ ¬ X b) w
  pi : ∀ p ∈ ps, p.Ok (fun b => b < w.heap.size ∧ Fr T M tv pv b ∧ ¬ X b) w
/-- What may change. -/
structure FR (B T M : Nat) (tv pv tv' pv' : Value) (w w' : World) : Prop where
  low : Below B w w'
  keep : ∀ b, b < w.heap.size → Fr T M tv pv b → w'.heap[b]? = w.heap[b]?
  tev : tv'.ownBlock = tv.ownBlock ∨ ∃ g, tv'.ownBlock = some g ∧ w.heap.size ≤ g
  pev : pv'.ownBlock = pv.ownBlock ∨ ∃ g, pv'.ownBlock = some g ∧ w.heap.size ≤ g
theorem FR.refl (B T M : Nat) (tv pv : Value) (w : World) : FR B T M tv pv tv pv w w := ⟨Below.refl _ _, fun _ _ _ => rfl, Or.inl rfl, Or.inl rfl⟩
theorem FR.fr {B T M : Nat} {tv pv tv' pv' : Value} {w w' : World} (h : FR B T M tv pv tv' pv' w w') {b : Nat} (hb : b < w.heap.size) (hf : Fr T M tv pv b) : Fr T M tv' pv' b := by
  obtain ⟨h1, h2, h3, h4⟩ := hf
  refine ⟨h1, h2, ?_, ?_⟩
  · rcases h.tev with e | ⟨g, e, hg⟩
    · rw [e]; exact h3
    · rw [e]; intro e2; have := Option.some.inj e2; omega
  · rcases h.pev with e | ⟨g, e, hg⟩
    · rw [e]; exact h4
    · rw [e]; intro e2; have := Option.some.inj e2; omega
theorem FR.trans {B T M : Nat} {tv pv tv1 pv1 tv2 pv2 : Value} {w w1 w2 : World} (h : FR B T M tv pv tv1 pv1 w w1) (k : FR B T M tv1 pv1 tv2 pv2 w1 w2) : FR B T M tv pv tv2 pv2 w w2 := by
  refine ⟨h.low.trans k.low, fun b hb hf => (k.keep b (Nat.lt_of_lt_of_le hb h.low.size) (h.fr hb hf)).trans (h.keep b hb hf), ?_, ?_⟩
  · rcases k.tev with e | ⟨g, e, hg⟩
    · rcases h.tev with e2 | ⟨g, e2, hg⟩
      · exact Or.inl (e.trans e2)
      · exact Or.inr ⟨g, e.trans e2, hg⟩
    · exact Or.inr ⟨g, e, Nat.le_trans h.low.size hg⟩
  · rcases k.pev with e | ⟨g, e, hg⟩
    · rcases h.pev with e2 | ⟨g, e2, hg⟩
      · exact Or.inl (e.trans e2)
      · exact Or.inr ⟨g, e.trans e2, hg⟩
    · exact Or.inr ⟨g, e, Nat.le_trans h.low.size hg⟩
theorem FR.of_below {B T M : Nat} {tv pv : Value} {w w' : World} (hb : Below w.heap.size w w') (hB : B ≤ w.heap.size) : FR B T M tv pv tv pv w w' :=
  ⟨hb.mono hB, fun b h _ => hb.block b h, Or.inl rfl, Or.inl rfl⟩
theorem own_below {B n size : Nat} {T : TypeId} {v : Value} {xs : List Value} {w w' : World} (h : w.ownsRow B T size v n xs) (hk : Below w.heap.size w w') : w'.ownsRow B T size v n xs :=
  h.kept (row := none) ⟨hk.os, hk.tape, hk.output, hk.size, fun k h1 _ => hk.block k h1⟩ (by cases hv : v.ownBlock <;> simp)
section
variable {B T M : Nat} {X : Nat → Prop} {tv pv : Value} {is : List IE} {ps : List PE} {w w' : World}
theorem MK.tlt (h : MK B X T M tv pv is ps w) : T < w.heap.size := (Array.getElem?_eq_some_iff.1 h.tb).1
theorem MK.mlt (h : MK B X T M tv pv is ps w) : M < w.heap.size := (Array.getElem?_eq_some_iff.1 h.mb).1
theorem MK.ble (h : MK B X T M tv pv is ps w) : B ≤ w.heap.size := Nat.le_of_lt (Nat.lt_of_le_of_lt h.bt h.tlt)
/-- New memory is no matter. -/
theorem MK.below (h : MK B X T M tv pv is ps w) (hb : Below w.heap.size w w') : MK B X T M tv pv is ps w' :=
  ⟨(hb.block _ h.tlt).trans h.tb, (hb.block _ h.mlt).trans h.mb, h.tm, h.bt, h.bm, own_below h.tr hb, own_below h.pr hb, h.s1, h.s2, h.s3, h.s4, h.s5, fun b hx => Nat.lt_of_lt_of_le (h.xlt b hx) hb.size, h.xt,
   fun e he => (h.ti e he).stay (fun k hk => hb.block k hk.1) (fun k hk => ⟨Nat.lt_of_lt_of_le hk.1 hb.size, hk.2⟩),
   fun e he => (h.pi e he).stay (fun k hk => hb.block k hk.1) (fun k hk => ⟨Nat.lt_of_lt_of_le hk.1 hb.size, hk.2⟩)⟩
theorem MK.tslice (h : MK B X T M tv pv is ps w) : ∃ a cap, tv = .slice a is.length cap ∧ is.length ≤ cap := by
  rcases h.tr.2 with ⟨rfl, h0⟩ | ⟨g, cap, cur, rfl, hbg, hg, hnc, hcm, hcs, htake⟩
  · exact ⟨none, 0, by rw [h0], by rw [h0]; exact Nat.le_refl _⟩
  · exact ⟨some ⟨g, 0, none⟩, cap, rfl, hnc⟩
theorem MK.pslice (h : MK B X T M tv pv is ps w) : ∃ a cap, pv = .slice a ps.length cap ∧ ps.length ≤ cap := by
  rcases h.pr.2 with ⟨rfl, h0⟩ | ⟨g, cap, cur, rfl, hbg, hg, hnc, hcm, hcs, htake⟩
  · exact ⟨none, 0, by rw [h0], by rw [h0]; exact Nat.le_refl _⟩
  · exact ⟨some ⟨g, 0, none⟩, cap, rfl, hnc⟩
end
/-- AN INSTRUCTION IS APPENDED, and the tape's box filled anew. -/
theorem MK.push {B T M : Nat} {X : Nat → Prop} {tv pv tv' : Value} {is : List IE} {ps : List PE} {w w2 w4 : World} (h : MK B X T M tv pv is ps w) (h2 : Below w.heap.size w w2) (e : IE) (he : e.Ok (fun b => b < w.heap.size ∧ Fr T M tv pv b ∧ ¬ X b) w)
    (hown : w4.ownsRow B 52 11 tv' (is.length + 1) (flatI is ++ e.cells)) (hg : w2.grownBy w4 tv.ownBlock) (hw : tv'.ownBlock = tv.ownBlock ∨ tv'.ownBlock = some w2.heap.size) :
    MK B X T M tv' pv (is ++ [e]) ps (w4.setCell ⟨T, 0, none⟩ tv') ∧ FR B T M tv pv tv' pv w (w4.setCell ⟨T, 0, none⟩ tv') := by
  have m2 := h.below h2
  have hs2 := h2.size
  have hs4 := hg.size
  have hke : Keep T w4 (w4.setCell ⟨T, 0, none⟩ tv') := (Keep.refl _ _).setCell _ rfl _
  have hs5 := hke.size
  have tev : tv'.ownBlock = tv.ownBlock ∨ ∃ g, tv'.ownBlock = some g ∧ w.heap.size ≤ g := by
    rcases hw with e | e
    · exact Or.inl e
    · exact Or.inr ⟨_, e, hs2⟩
  have keep : ∀ b, b < w2.heap.size → Fr T M tv pv b → (w4.setCell ⟨T, 0, none⟩ tv').heap[b]? = w2.heap[b]? := fun b hb hf => (hke.block b (by omega) (by simpa using hf.1)).trans (hg.block b hb hf.2.2.1)
  have fr : FR B T M tv pv tv' pv w (w4.setCell ⟨T, 0, none⟩ tv') := by
    refine ⟨(h2.mono h.ble).trans (((Below.refl B w2).grown hg m2.ble (fun k hk => (m2.tr.lt k hk).1)).trans (hke.toBelow h.bt (by have := m2.ble; omega))), fun b hb hf => (keep b (by omega) hf).trans (h2.block b hb), tev, Or.inl rfl⟩
  have hfr2 : ∀ b, b < w2.heap.size → Fr T M tv pv b → Fr T M tv' pv b := by
    intro b hb hf
    refine ⟨hf.1, hf.2.1, ?_, hf.2.2.2⟩
    rcases hw with e | e
    · rw [e]; exact hf.2.2.1
    · rw [e]; intro e2; have := Option.some.inj e2; omega
  have ne : ∀ k, k < w2.heap.size → tv.ownBlock ≠ some k → tv'.ownBlock ≠ some k := by
    intro k hk hn
    rcases hw with e | e
    · rw [e]; exact hn
    · rw [e]; intro e2; have := Option.some.inj e2; omega
  have tlt := m2.tlt
  have mlt := m2.mlt
  refine ⟨⟨?_, ?_, h.tm, h.bt, h.bm, ?_, ?_, ne T tlt h.s1, ne M mlt h.s2, h.s3, h.s4, ?_, fun b hx => by have := m2.xlt b hx; omega, ?_, ?_, ?_⟩, fr⟩
  · have h5 : w4.heap[T]? = some (.cells #[tv] 165 (0, 0)) := (hg.block T tlt (fun e => h.s1 e.symm)).trans m2.tb
    exact heap_setCell_same w4 T 0 #[tv] 165 tv' h5
  · exact (hke.block M (by omega) (by simpa using fun e => h.tm e.symm)).trans ((hg.block M mlt (fun e => h.s2 e.symm)).trans m2.mb)
  · rw [flatI_append, List.length_append]
    have : flatI [e] = e.cells := by simp [flatI]
    rw [this]
    exact hown.kept hke (Or.inr (by have := ne T tlt h.s1; simpa using this))
  · refine (m2.pr.kept hg ?_).kept hke (Or.inr (by simpa using h.s3))
    cases hv : pv.ownBlock with
    | none => exact Or.inl rfl
    | some g => exact Or.inr (fun e => (h.s5 g e.symm) hv)
  · intro g hg2 hp
    rcases hw with e | e
    · exact h.s5 g (e ▸ hg2) hp
    · rw [e] at hg2
      have := Option.some.inj hg2
      have := (m2.pr.lt g hp).2
      omega
  · intro g hg2 hx
    rcases hw with e | e
    · exact h.xt g (e ▸ hg2) hx
    · rw [e] at hg2
      have := Option.some.inj hg2
      have := m2.xlt g hx
      omega
  · intro f hf
    have h1 : f.Ok (fun b => b < w2.heap.size ∧ Fr T M tv pv b ∧ ¬ X b) w2 := by
      rcases List.mem_append.1 hf with hf | hf
      · exact m2.ti f hf
      · simp at hf
        subst hf
        exact he.stay (fun k hk => h2.block k hk.1) (fun k hk => ⟨Nat.lt_of_lt_of_le hk.1 h2.size, hk.2⟩)
    exact h1.stay (fun k hk => keep k hk.1 hk.2.1) (fun k hk => ⟨by have := hk.1; omega, hfr2 k hk.1 hk.2.1, hk.2.2⟩)
  · intro f hf
    exact (m2.pi f hf).stay (fun k hk => keep k hk.1 hk.2.1) (fun k hk => ⟨by have := hk.1; omega, hfr2 k hk.1 hk.2.1, hk.2.2⟩)
end
end Go.Proofs.YtfmanhkeclogfaaGreatDoor
