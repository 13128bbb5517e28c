/- Instructions: package code's last. -/
import Derived.Test.YtbbmdhkbndgdkaaK15
namespace Go.Proofs.Ytbbmdhkbndgdkaa
set_option linter.unusedVariables false
set_option linter.unusedSimpArgs false
open Go.RowKit

/-- What is told of an instruction that was made. -/
def ToldI (i : In) (w : World) (e : Ending) (w' : World) : Prop :=
  Below w.heap.size w w' ∧ ∃ qa qc f, e = .returned (iv i qa qc) ∧ i.quote.kids.length ≤ qc ∧ Dc (New w w') w' f qa i.quote.kids

set_option maxRecDepth 100000 in
set_option maxHeartbeats 1600000 in
theorem last_any (B f b o : Nat) (c : Cor) (w : World) (hc : Cn B w f b o c) (hB : B ≤ w.heap.size) (hlb : c.lib.size ≤ 281474976710656) (how : c.own.size ≤ 281474976710656) (hq : c.kind = 3 → smQ c.quote) :
    Calls Try.prog 40 #[.pointer (some ⟨b, o, none⟩)] w (ToldI (lastI c) w) := by
  obtain ⟨hb, qa, qc, ka, kc, nc, ok, hqd, hk⟩ := hc
  obtain ⟨c0, c1, c2, c3, c4, c5, c6, c7, c8, c9, c10, c11⟩ := nc
  have hlen := hk.len
  have hbw : b < w.heap.size := Nat.lt_of_lt_of_le hb hB
  have HQ := hidd hq
  have HB : Hid (Below w.heap.size w (w.alloc (.cells #[.int .i64 0, .int .i64 0, .int .i64 0, .string ⟨#[]⟩, .string ⟨#[]⟩, .int .i64 0, .int .i64 0, .string ⟨#[]⟩, .int .i64 0, .int .i64 0, .slice none 0 0] 46))) := (Below.refl _ _).alloc (Nat.le_refl _) _
  have RB := hidd (World.alloc_heap_new w (.cells #[.int .i64 0, .int .i64 0, .int .i64 0, .string ⟨#[]⟩, .string ⟨#[]⟩, .int .i64 0, .int .i64 0, .string ⟨#[]⟩, .int .i64 0, .int .i64 0, .slice none 0 0] 46))
  clear hq ok hk hb
  obtain ⟨k, i, n, lb, ow, q, ks⟩ := c
  simp only at c0 c1 c2 c3 c4 c5 c6 c7 c8 c9 c10 c11 hlb how HQ hlen hqd
  by_cases k1 : k = 1
  · subst k1
    rw [show lastI ⟨1, i, n, lb, ow, q, ks⟩ = insN 1 n by simp [lastI]]
    go_enter Try.func40, Try.ntmps40
    go_wp2_with fail
    exact bodyPost_ret (ret40 (World.alloc_heap_new w _) rfl) rfl ⟨(Below.refl _ _).alloc (Nat.le_refl _) _, none, 0, 0, rfl, Nat.le_refl _, rfl⟩
  by_cases k2 : k = 2
  · subst k2
    rw [show lastI ⟨2, i, n, lb, ow, q, ks⟩ = insN 2 n by simp [lastI]]
    go_enter Try.func40, Try.ntmps40
    go_wp2_with fail
    exact bodyPost_ret (ret40 (World.alloc_heap_new w _) rfl) rfl ⟨(Below.refl _ _).alloc (Nat.le_refl _) _, none, 0, 0, rfl, Nat.le_refl _, rfl⟩
  by_cases k3 : k = 3
  · subst k3
    rw [show lastI ⟨3, i, n, lb, ow, q, ks⟩ = { insO 3 with quote := bareQ q } by simp [lastI]]
    have BQ : Hid (Calls Try.prog 46 #[.agg #[.int .i64 q.kind, .int .i64 q.n, .string q.name, .int .i64 q.stamp, .int .i64 q.lib, .slice qa q.kids.length qc]] (w.alloc (.cells #[.int .i64 0, .int .i64 0, .int .i64 0, .string ⟨#[]⟩, .string ⟨#[]⟩, .int .i64 0, .int .i64 0, .string ⟨#[]⟩, .int .i64 0, .int .i64 0, .slice none 0 0] 46)) (ToldB (bareQ q) (w.alloc (.cells #[.int .i64 0, .int .i64 0, .int .i64 0, .string ⟨#[]⟩, .string ⟨#[]⟩, .int .i64 0, .int .i64 0, .string ⟨#[]⟩, .int .i64 0, .int .i64 0, .slice none 0 0] 46)))) := Bare_any f q qa qc _ (Dn.lift (Dc.stay (fun _ _ => rfl) (fun k hk => Nat.lt_of_lt_of_le hk hB) _ _ _ hqd) HB.out) (HQ.out (by trivial))
    generalize bareQ q = rq at BQ ⊢
    go_enter Try.func40, Try.ntmps40
    go_wp2_with fail
    refine BQ.out.mono ?_
    rintro e w1 ⟨hb1, a2, cap2, f2, rfl, hcap2, hdc2⟩
    have hb2 : Hid (Below w.heap.size w w1) := HB.out.trans (hb1.mono HB.out.size)
    have RB1 := hidd ((hb1.block _ (Array.getElem?_eq_some_iff.1 RB.out).1).trans RB.out)
    have HB1 := hb2
    have HD : Hid (rq.kids.length ≤ cap2 ∧ Dc (New w w1) w1 f2 a2 rq.kids ∧ ∀ b, New w w1 b → True) := ⟨hcap2, Dc.stay (fun _ _ => rfl) (fun k hk => ⟨by have := hk.1; simp at this; omega, hk.2⟩) _ _ _ hdc2, fun _ _ => trivial⟩
    have HD3 : Hid (Dc (fun b => w.heap.size + 1 ≤ b ∧ b < w1.heap.size) w1 f2 a2 rq.kids) := Dc.stay (fun _ _ => rfl) (fun k hk => ⟨by have := hk.1; simpa using this, hk.2⟩) _ _ _ hdc2
    unfold dv
    simp only
    have cc : ∀ q, w1.cell? ⟨w.heap.size, q, none⟩ = #[.int .i64 0, .int .i64 0, .int .i64 0, .string ⟨#[]⟩, .string ⟨#[]⟩, .int .i64 0, .int .i64 0, .string ⟨#[]⟩, .int .i64 0, .int .i64 0, .slice none 0 0][q]? := fun q => by simp [World.cell?, RB1.out]
    have q0 := cc 0
    have q1 := cc 1
    have q2 := cc 2
    have q3 := cc 3
    have q4 := cc 4
    have q5 := cc 5
    have q6 := cc 6
    have q7 := cc 7
    have q8 := cc 8
    have q9 := cc 9
    have q10 := cc 10
    have qz : ∀ q, w1.frozen? ⟨w.heap.size, q, none⟩ = false := fun q => by simp [World.frozen?, RB1.out]
    simp at q0 q1 q2 q3 q4 q5 q6 q7 q8 q9 q10
    clear cc
    clear hb1 hcap2 hdc2 c0 c1 c2 c3 c4 c5 c6 c7 c8 c9 c10 c11
    go_wp2_with fail
    have END := hidd (fill11_heap RB1.out (.int .i64 3) (.int .i64 0) (.int .i64 0) (.string ⟨#[]⟩) (.string ⟨#[]⟩) (.int .i64 rq.kind) (.int .i64 rq.n) (.string rq.name) (.int .i64 rq.stamp) (.int .i64 rq.lib) (.slice a2 rq.kids.length cap2))
    have hke := fill11_keep w1 w.heap.size (.int .i64 3) (.int .i64 0) (.int .i64 0) (.string ⟨#[]⟩) (.string ⟨#[]⟩) (.int .i64 rq.kind) (.int .i64 rq.n) (.string rq.name) (.int .i64 rq.stamp) (.int .i64 rq.lib) (.slice a2 rq.kids.length cap2)
    have BE : Hid (Below w.heap.size w (fill11 w1 w.heap.size (.int .i64 3) (.int .i64 0) (.int .i64 0) (.string ⟨#[]⟩) (.string ⟨#[]⟩) (.int .i64 rq.kind) (.int .i64 rq.n) (.string rq.name) (.int .i64 rq.stamp) (.int .i64 rq.lib) (.slice a2 rq.kids.length cap2))) := HB1.out.trans (hke.toBelow (Nat.le_refl _) HB1.out.size)
    change bodyPost _ _ _ _ _ (fill11 w1 w.heap.size (.int .i64 3) (.int .i64 0) (.int .i64 0) (.string ⟨#[]⟩) (.string ⟨#[]⟩) (.int .i64 rq.kind) (.int .i64 rq.n) (.string rq.name) (.int .i64 rq.stamp) (.int .i64 rq.lib) (.slice a2 rq.kids.length cap2))
    clear q0 q1 q2 q3 q4 q5 q6 q7 q8 q9 q10 qz
    refine bodyPost_ret (ret40 END.out rfl) rfl ⟨BE.out, a2, cap2, f2, rfl, HD.out.1, ?_⟩
    exact Dc.stay (fun k hk => hke.block k hk.2 (by simp; have := hk.1; omega)) (fun k hk => ⟨by have := hk.1; omega, Nat.lt_of_lt_of_le hk.2 hke.size⟩) _ _ _ HD3.out
  by_cases k4 : k = 4
  · subst k4
    rw [show lastI ⟨4, i, n, lb, ow, q, ks⟩ = insA 4 i by simp [lastI]]
    go_enter Try.func40, Try.ntmps40
    go_wp2_with fail
    exact bodyPost_ret (ret40 (World.alloc_heap_new w _) rfl) rfl ⟨(Below.refl _ _).alloc (Nat.le_refl _) _, none, 0, 0, rfl, Nat.le_refl _, rfl⟩
  by_cases k10 : k = 10
  · subst k10
    rw [show lastI ⟨10, i, n, lb, ow, q, ks⟩ = insA 11 i by simp [lastI]]
    go_enter Try.func40, Try.ntmps40
    go_wp2_with fail
    exact bodyPost_ret (ret40 (World.alloc_heap_new w _) rfl) rfl ⟨(Below.refl _ _).alloc (Nat.le_refl _) _, none, 0, 0, rfl, Nat.le_refl _, rfl⟩
  by_cases k5 : k = 5
  · subst k5
    rw [show lastI ⟨5, i, n, lb, ow, q, ks⟩ = insG 5 lb ow by simp [lastI]]
    have NM := hidd (named_any 5 b o lb ow (w.alloc (.cells #[.int .i64 0, .int .i64 0, .int .i64 0, .string ⟨#[]⟩, .string ⟨#[]⟩, .int .i64 0, .int .i64 0, .string ⟨#[]⟩, .int .i64 0, .int .i64 0, .slice none 0 0] 46)) (Nat.lt_of_lt_of_le hbw HB.out.size) ((HB.out.cell (p := ⟨b, o + 3, none⟩) hbw).trans c3) ((HB.out.cell (p := ⟨b, o + 4, none⟩) hbw).trans c4) hlb how)
    go_enter Try.func40, Try.ntmps40
    go_wp2_with fail
    refine NM.out.mono ?_
    rintro e w1 ⟨rfl, hb1⟩
    have hb2 : Hid (Below w.heap.size w w1) := HB.out.trans (hb1.mono HB.out.size)
    have RB1 := hidd ((hb1.block _ (Array.getElem?_eq_some_iff.1 RB.out).1).trans RB.out)
    have HB1 := hb2
    have cc : ∀ q, w1.cell? ⟨w.heap.size, q, none⟩ = #[.int .i64 0, .int .i64 0, .int .i64 0, .string ⟨#[]⟩, .string ⟨#[]⟩, .int .i64 0, .int .i64 0, .string ⟨#[]⟩, .int .i64 0, .int .i64 0, .slice none 0 0][q]? := fun q => by simp [World.cell?, RB1.out]
    have q0 := cc 0
    have q1 := cc 1
    have q2 := cc 2
    have q3 := cc 3
    have q4 := cc 4
    have q5 := cc 5
    have q6 := cc 6
    have q7 := cc 7
    have q8 := cc 8
    have q9 := cc 9
    have q10 := cc 10
    have qz : ∀ q, w1.frozen? ⟨w.heap.size, q, none⟩ = false := fun q => by simp [World.frozen?, RB1.out]
    simp at q0 q1 q2 q3 q4 q5 q6 q7 q8 q9 q10
    clear cc
    clear hb1 c0 c1 c2 c3 c4 c5 c6 c7 c8 c9 c10 c11
    go_wp2_with fail
    have END := hidd (fill11_heap RB1.out (.int .i64 5) (.int .i64 0) (.int .i64 0) (.string lb) (.string ow) (.int .i64 0) (.int .i64 0) (.string ⟨#[]⟩) (.int .i64 0) (.int .i64 0) (.slice none 0 0))
    have hke := fill11_keep w1 w.heap.size (.int .i64 5) (.int .i64 0) (.int .i64 0) (.string lb) (.string ow) (.int .i64 0) (.int .i64 0) (.string ⟨#[]⟩) (.int .i64 0) (.int .i64 0) (.slice none 0 0)
    have BE : Hid (Below w.heap.size w (fill11 w1 w.heap.size (.int .i64 5) (.int .i64 0) (.int .i64 0) (.string lb) (.string ow) (.int .i64 0) (.int .i64 0) (.string ⟨#[]⟩) (.int .i64 0) (.int .i64 0) (.slice none 0 0))) := HB1.out.trans (hke.toBelow (Nat.le_refl _) HB1.out.size)
    change bodyPost _ _ _ _ _ (fill11 w1 w.heap.size (.int .i64 5) (.int .i64 0) (.int .i64 0) (.string lb) (.string ow) (.int .i64 0) (.int .i64 0) (.string ⟨#[]⟩) (.int .i64 0) (.int .i64 0) (.slice none 0 0))
    clear q0 q1 q2 q3 q4 q5 q6 q7 q8 q9 q10 qz
    exact bodyPost_ret (ret40 END.out rfl) rfl ⟨BE.out, none, 0, 0, rfl, Nat.le_refl _, rfl⟩
  by_cases k11 : k = 11
  · subst k11
    rw [show lastI ⟨11, i, n, lb, ow, q, ks⟩ = insG 12 lb ow by simp [lastI]]
    have NM := hidd (named_any 12 b o lb ow (w.alloc (.cells #[.int .i64 0, .int .i64 0, .int .i64 0, .string ⟨#[]⟩, .string ⟨#[]⟩, .int .i64 0, .int .i64 0, .string ⟨#[]⟩, .int .i64 0, .int .i64 0, .slice none 0 0] 46)) (Nat.lt_of_lt_of_le hbw HB.out.size) ((HB.out.cell (p := ⟨b, o + 3, none⟩) hbw).trans c3) ((HB.out.cell (p := ⟨b, o + 4, none⟩) hbw).trans c4) hlb how)
    go_enter Try.func40, Try.ntmps40
    go_wp2_with fail
    refine NM.out.mono ?_
    rintro e w1 ⟨rfl, hb1⟩
    have hb2 : Hid (Below w.heap.size w w1) := HB.out.trans (hb1.mono HB.out.size)
    have RB1 := hidd ((hb1.block _ (Array.getElem?_eq_some_iff.1 RB.out).1).trans RB.out)
    have HB1 := hb2
    have cc : ∀ q, w1.cell? ⟨w.heap.size, q, none⟩ = #[.int .i64 0, .int .i64 0, .int .i64 0, .string ⟨#[]⟩, .string ⟨#[]⟩, .int .i64 0, .int .i64 0, .string ⟨#[]⟩, .int .i64 0, .int .i64 0, .slice none 0 0][q]? := fun q => by simp [World.cell?, RB1.out]
    have q0 := cc 0
    have q1 := cc 1
    have q2 := cc 2
    have q3 := cc 3
    have q4 := cc 4
    have q5 := cc 5
    have q6 := cc 6
    have q7 := cc 7
    have q8 := cc 8
    have q9 := cc 9
    have q10 := cc 10
    have qz : ∀ q, w1.frozen? ⟨w.heap.size, q, none⟩ = false := fun q => by simp [World.frozen?, RB1.out]
    simp at q0 q1 q2 q3 q4 q5 q6 q7 q8 q9 q10
    clear cc
    clear hb1 c0 c1 c2 c3 c4 c5 c6 c7 c8 c9 c10 c11
    go_wp2_with fail
    have END := hidd (fill11_heap RB1.out (.int .i64 12) (.int .i64 0) (.int .i64 0) (.string lb) (.string ow) (.int .i64 0) (.int .i64 0) (.string ⟨#[]⟩) (.int .i64 0) (.int .i64 0) (.slice none 0 0))
    have hke := fill11_keep w1 w.heap.size (.int .i64 12) (.int .i64 0) (.int .i64 0) (.string lb) (.string ow) (.int .i64 0) (.int .i64 0) (.string ⟨#[]⟩) (.int .i64 0) (.int .i64 0) (.slice none 0 0)
    have BE : Hid (Below w.heap.size w (fill11 w1 w.heap.size (.int .i64 12) (.int .i64 0) (.int .i64 0) (.string lb) (.string ow) (.int .i64 0) (.int .i64 0) (.string ⟨#[]⟩) (.int .i64 0) (.int .i64 0) (.slice none 0 0))) := HB1.out.trans (hke.toBelow (Nat.le_refl _) HB1.out.size)
    change bodyPost _ _ _ _ _ (fill11 w1 w.heap.size (.int .i64 12) (.int .i64 0) (.int .i64 0) (.string lb) (.string ow) (.int .i64 0) (.int .i64 0) (.string ⟨#[]⟩) (.int .i64 0) (.int .i64 0) (.slice none 0 0))
    clear q0 q1 q2 q3 q4 q5 q6 q7 q8 q9 q10 qz
    exact bodyPost_ret (ret40 END.out rfl) rfl ⟨BE.out, none, 0, 0, rfl, Nat.le_refl _, rfl⟩
  by_cases k13 : k = 13
  · subst k13
    rw [show lastI ⟨13, i, n, lb, ow, q, ks⟩ = insG 13 lb ow by simp [lastI]]
    have NM := hidd (named_any 13 b o lb ow (w.alloc (.cells #[.int .i64 0, .int .i64 0, .int .i64 0, .string ⟨#[]⟩, .string ⟨#[]⟩, .int .i64 0, .int .i64 0, .string ⟨#[]⟩, .int .i64 0, .int .i64 0, .slice none 0 0] 46)) (Nat.lt_of_lt_of_le hbw HB.out.size) ((HB.out.cell (p := ⟨b, o + 3, none⟩) hbw).trans c3) ((HB.out.cell (p := ⟨b, o + 4, none⟩) hbw).trans c4) hlb how)
    go_enter Try.func40, Try.ntmps40
    go_wp2_with fail
    refine NM.out.mono ?_
    rintro e w1 ⟨rfl, hb1⟩
    have hb2 : Hid (Below w.heap.size w w1) := HB.out.trans (hb1.mono HB.out.size)
    have RB1 := hidd ((hb1.block _ (Array.getElem?_eq_some_iff.1 RB.out).1).trans RB.out)
    have HB1 := hb2
    have cc : ∀ q, w1.cell? ⟨w.heap.size, q, none⟩ = #[.int .i64 0, .int .i64 0, .int .i64 0, .string ⟨#[]⟩, .string ⟨#[]⟩, .int .i64 0, .int .i64 0, .string ⟨#[]⟩, .int .i64 0, .int .i64 0, .slice none 0 0][q]? := fun q => by simp [World.cell?, RB1.out]
    have q0 := cc 0
    have q1 := cc 1
    have q2 := cc 2
    have q3 := cc 3
    have q4 := cc 4
    have q5 := cc 5
    have q6 := cc 6
    have q7 := cc 7
    have q8 := cc 8
    have q9 := cc 9
    have q10 := cc 10
    have qz : ∀ q, w1.frozen? ⟨w.heap.size, q, none⟩ = false := fun q => by simp [World.frozen?, RB1.out]
    simp at q0 q1 q2 q3 q4 q5 q6 q7 q8 q9 q10
    clear cc
    clear hb1 c0 c1 c2 c3 c4 c5 c6 c7 c8 c9 c10 c11
    go_wp2_with fail
    have END := hidd (fill11_heap RB1.out (.int .i64 13) (.int .i64 0) (.int .i64 0) (.string lb) (.string ow) (.int .i64 0) (.int .i64 0) (.string ⟨#[]⟩) (.int .i64 0) (.int .i64 0) (.slice none 0 0))
    have hke := fill11_keep w1 w.heap.size (.int .i64 13) (.int .i64 0) (.int .i64 0) (.string lb) (.string ow) (.int .i64 0) (.int .i64 0) (.string ⟨#[]⟩) (.int .i64 0) (.int .i64 0) (.slice none 0 0)
    have BE : Hid (Below w.heap.size w (fill11 w1 w.heap.size (.int .i64 13) (.int .i64 0) (.int .i64 0) (.string lb) (.string ow) (.int .i64 0) (.int .i64 0) (.string ⟨#[]⟩) (.int .i64 0) (.int .i64 0) (.slice none 0 0))) := HB1.out.trans (hke.toBelow (Nat.le_refl _) HB1.out.size)
    change bodyPost _ _ _ _ _ (fill11 w1 w.heap.size (.int .i64 13) (.int .i64 0) (.int .i64 0) (.string lb) (.string ow) (.int .i64 0) (.int .i64 0) (.string ⟨#[]⟩) (.int .i64 0) (.int .i64 0) (.slice none 0 0))
    clear q0 q1 q2 q3 q4 q5 q6 q7 q8 q9 q10 qz
    exact bodyPost_ret (ret40 END.out rfl) rfl ⟨BE.out, none, 0, 0, rfl, Nat.le_refl _, rfl⟩
  by_cases k6 : k = 6
  · subst k6
    rw [show lastI ⟨6, i, n, lb, ow, q, ks⟩ = insG 6 ⟨#[]⟩ ow by simp [lastI]]
    have NM := hidd (Clone_any ow (w.alloc (.cells #[.int .i64 0, .int .i64 0, .int .i64 0, .string ⟨#[]⟩, .string ⟨#[]⟩, .int .i64 0, .int .i64 0, .string ⟨#[]⟩, .int .i64 0, .int .i64 0, .slice none 0 0] 46)) how)
    go_enter Try.func40, Try.ntmps40
    go_wp2_with fail
    refine NM.out.mono ?_
    rintro e w1 ⟨rfl, hb1⟩
    have hb2 : Hid (Below w.heap.size w w1) := HB.out.trans (hb1.mono HB.out.size)
    have RB1 := hidd ((hb1.block _ (Array.getElem?_eq_some_iff.1 RB.out).1).trans RB.out)
    have HB1 := hb2
    have cc : ∀ q, w1.cell? ⟨w.heap.size, q, none⟩ = #[.int .i64 0, .int .i64 0, .int .i64 0, .string ⟨#[]⟩, .string ⟨#[]⟩, .int .i64 0, .int .i64 0, .string ⟨#[]⟩, .int .i64 0, .int .i64 0, .slice none 0 0][q]? := fun q => by simp [World.cell?, RB1.out]
    have q0 := cc 0
    have q1 := cc 1
    have q2 := cc 2
    have q3 := cc 3
    have q4 := cc 4
    have q5 := cc 5
    have q6 := cc 6
    have q7 := cc 7
    have q8 := cc 8
    have q9 := cc 9
    have q10 := cc 10
    have qz : ∀ q, w1.frozen? ⟨w.heap.size, q, none⟩ = false := fun q => by simp [World.frozen?, RB1.out]
    simp at q0 q1 q2 q3 q4 q5 q6 q7 q8 q9 q10
    clear cc
    clear hb1 c0 c1 c2 c3 c4 c5 c6 c7 c8 c9 c10 c11
    go_wp2_with fail
    have END := hidd (fill11_heap RB1.out (.int .i64 6) (.int .i64 0) (.int .i64 0) (.string ⟨#[]⟩) (.string ow) (.int .i64 0) (.int .i64 0) (.string ⟨#[]⟩) (.int .i64 0) (.int .i64 0) (.slice none 0 0))
    have hke := fill11_keep w1 w.heap.size (.int .i64 6) (.int .i64 0) (.int .i64 0) (.string ⟨#[]⟩) (.string ow) (.int .i64 0) (.int .i64 0) (.string ⟨#[]⟩) (.int .i64 0) (.int .i64 0) (.slice none 0 0)
    have BE : Hid (Below w.heap.size w (fill11 w1 w.heap.size (.int .i64 6) (.int .i64 0) (.int .i64 0) (.string ⟨#[]⟩) (.string ow) (.int .i64 0) (.int .i64 0) (.string ⟨#[]⟩) (.int .i64 0) (.int .i64 0) (.slice none 0 0))) := HB1.out.trans (hke.toBelow (Nat.le_refl _) HB1.out.size)
    change bodyPost _ _ _ _ _ (fill11 w1 w.heap.size (.int .i64 6) (.int .i64 0) (.int .i64 0) (.string ⟨#[]⟩) (.string ow) (.int .i64 0) (.int .i64 0) (.string ⟨#[]⟩) (.int .i64 0) (.int .i64 0) (.slice none 0 0))
    clear q0 q1 q2 q3 q4 q5 q6 q7 q8 q9 q10 qz
    exact bodyPost_ret (ret40 END.out rfl) rfl ⟨BE.out, none, 0, 0, rfl, Nat.le_refl _, rfl⟩
  rw [show lastI ⟨k, i, n, lb, ow, q, ks⟩ = insA 8 ((ks.length : Int) - 1) by simp [lastI, k1, k2, k3, k4, k10, k5, k11, k13, k6]]
  have j1 : (k == 1) = false := by simpa using k1
  have j2 : (k == 2) = false := by simpa using k2
  have j3 : (k == 3) = false := by simpa using k3
  have j4 : (k == 4) = false := by simpa using k4
  have j10 : (k == 10) = false := by simpa using k10
  have j5 : (k == 5) = false := by simpa using k5
  have j11 : (k == 11) = false := by simpa using k11
  have j13 : (k == 13) = false := by simpa using k13
  have j6 : (k == 6) = false := by simpa using k6
  clear k1 k2 k3 k4 k10 k5 k11 k13 k6
  go_enter Try.func40, Try.ntmps40
  go_wp2_with fail
  exact bodyPost_ret (ret40 (World.alloc_heap_new w _) rfl) rfl ⟨(Below.refl _ _).alloc (Nat.le_refl _) _, none, 0, 0, rfl, Nat.le_refl _, rfl⟩
end Go.Proofs.Ytbbmdhkbndgdkaa
