/- Package names: Lib. -/
import Derived.Test.YtckiihbnjfeplaaFc
import Derived.Test.YtckiihbnjfeplaaWd
namespace Go.Proofs.Ytckiihbnjfeplaa
set_option linter.unusedVariables false
set_option linter.unusedSimpArgs false
open Go.RowKit

/-- How deep a set is. -/
def depS : St → Nat
  | .last _ => 0
  | .more _ _ k => depS k + 1
/-- No name in it is long. -/
def SmallS : St → Prop
  | .last l => l.name.size ≤ 1048576
  | .more l _ k => l.name.size ≤ 1048576 ∧ SmallS k
theorem SmallS.name {s : St} (h : SmallS s) : s.ly.name.size ≤ 1048576 := by
  cases s with
  | last l => exact h
  | more l n k => exact h.1
theorem heap_setCellY {w : World} {g i : Nat} {cur : Array Value} {e : TypeId} (hg : w.heap[g]? = some (.cells cur e (0, 0))) (hi : i < cur.size) (u : Value) : (w.setCell ⟨g, i, none⟩ u).heap[g]? = some (.cells (cur.set! i u) e (0, 0)) := by
  have hlt := (Array.getElem?_eq_some_iff.1 hg).1
  have hg' : w.heap[g] = .cells cur e (0, 0) := by rw [Array.getElem?_eq_getElem hlt] at hg; simpa using hg
  simp [World.setCell, hlt, Array.getElem_modify, hg']
theorem set6 {w : World} {b : Nat} {y0 y1 y2 y3 y4 y5 : Value} (h : w.heap[b]? = some (.cells #[y0, y1, y2, y3, y4, y5] 25 (0, 0))) (x0 x1 x2 x3 x4 x5 : Value) :
    ((((((w.setCell ⟨b, 0, none⟩ x0).setCell ⟨b, 1, none⟩ x1).setCell ⟨b, 2, none⟩ x2).setCell ⟨b, 3, none⟩ x3).setCell ⟨b, 4, none⟩ x4).setCell ⟨b, 5, none⟩ x5).heap[b]? = some (.cells #[x0, x1, x2, x3, x4, x5] 25 (0, 0)) := by
  rw [heap_setCellY (i := 5) (heap_setCellY (i := 4) (heap_setCellY (i := 3) (heap_setCellY (i := 2) (heap_setCellY (i := 1) (heap_setCellY (i := 0) h (by simp) x0) (by simp) x1) (by simp) x2) (by simp) x3) (by simp) x4) (by simp) x5]
  rfl

set_option maxRecDepth 100000 in
set_option maxHeartbeats 6400000 in
theorem Lib_any (B : Nat) (s : St) (vs : List Value) (w : World) (h : LiesS B w s vs) (hB : B ≤ w.heap.size) (hd : depS s < 1048576) (hsm : SmallS s) :
    Calls Try.prog 7 #[aggOf vs] w fun e w' => e = .returned (.string (libS s)) ∧ Below w.heap.size w w' := by
  obtain ⟨a0, a1, a2, c0, c1, c2, hvs, hL, hn⟩ := h.cells
  have hag : aggOf vs = .agg #[.int .i64 s.ly.kind, .string s.ly.name, .slice a0 s.ly.names.length c0, .slice a1 s.ly.asn.length c1, .string s.ly.pre, .slice a2 s.nk c2] := by rw [hvs]; rfl
  have HH : Hid (LiesS B w s vs ∧ B ≤ w.heap.size ∧ depS s < 1048576 ∧ SmallS s) := ⟨h, hB, hd, hsm⟩
  have HV : Hid (vs = setV s.ly a0 a1 a2 c0 c1 c2 s.nk) := hvs
  rw [hag]
  clear hag hvs hL hn h hB hd hsm
  go_enter Try.func7, Try.ntmps7
  go_wp2_with fail
  go_loopw [3] (fun iv wr => ∃ (i : Nat) (s' : St) (f0 f1 f2 : Option Addr) (d0 d1 d2 : Nat), iv = .int .i64 i ∧ Hid (i + depS s' = depS s ∧ libS s' = libS s ∧ SmallS s' ∧ LiesS B w s' (setV s'.ly f0 f1 f2 d0 d1 d2 s'.nk)) ∧ Hid (Below w.heap.size w wr ∧ wr.heap[w.heap.size]? = some (.cells #[.int .i64 s'.ly.kind, .string s'.ly.name, .slice f0 s'.ly.names.length d0, .slice f1 s'.ly.asn.length d1, .string s'.ly.pre, .slice f2 s'.nk d2] 25 (0, 0)))) (fun iv _ => 1048576 - (intOf iv).toNat)
  case atStart => exact ⟨0, s, a0, a1, a2, c0, c1, c2, rfl, ⟨by omega, rfl, HH.out.2.2.2, HV.out ▸ HH.out.1⟩, (Below.refl _ _).alloc (Nat.le_refl _) _, heap_alloc_new w _⟩
  case round =>
    obtain ⟨i, s', f0, f1, f2, d0, d1, d2, rfl, HI, HR⟩ := hrel
    have hi : (i : Int) < 1048576 := by have := HI.out.1; have := HH.out.2.2.1; omega
    have v0 : wr.cell? ⟨w.heap.size, 0, none⟩ = some (.int .i64 s'.ly.kind) := by simp only [World.cell?, HR.out.2]; rfl
    have v1 : wr.cell? ⟨w.heap.size, 1, none⟩ = some (.string s'.ly.name) := by simp only [World.cell?, HR.out.2]; rfl
    have v5 : wr.cell? ⟨w.heap.size, 5, none⟩ = some (.slice f2 s'.nk d2) := by simp only [World.cell?, HR.out.2]; rfl
    have hnk : s'.nk ≤ 9223372036854775807 := by
      obtain ⟨_, _, _, _, _, _, _, _, q⟩ := HI.out.2.2.2.cells
      exact q
    by_cases hk : s'.ly.kind = 1 ∨ s'.nk = 0
    · have HE : Hid (libS s' = s'.ly.name) := by
        show libS s' = _
        cases s' with
        | last l => rfl
        | more l n k =>
          rcases hk with q | q
          · simp only [St.ly] at q
            simp [libS, St.ly, q]
          · simp [St.nk] at q
      have CL := fun W => Clone_any s'.ly.name (Nat.le_trans HI.out.2.2.1.name (by decide)) W
      have HCL : Hid (∀ W, Calls Try.prog 23 #[.string s'.ly.name] W fun e w' => e = .returned (.string s'.ly.name) ∧ Below W.heap.size W w') := CL
      clear CL
      generalize s'.ly.kind = kd at *
      generalize s'.nk = nk at *
      by_cases h1 : kd = 1
      · subst h1
        clear hk
        go_wp2_with fail
        refine (HCL.out _).mono ?_
        rintro e w2 ⟨rfl, hb2⟩
        have HB2 : Hid (Below w.heap.size w w2) := HR.out.1.trans (hb2.mono HR.out.1.size)
        clear hb2
        go_wp2_with fail
        go_ret
        exact ⟨by rw [← HI.out.2.1, HE.out]; rfl, HB2.out⟩
      · obtain rfl : nk = 0 := by
          rcases hk with q | q
          · exact absurd q h1
          · exact q
        have g1 : (kd == 1) = false := by simpa using h1
        clear hk
        go_wp2_with fail
        refine (HCL.out _).mono ?_
        rintro e w2 ⟨rfl, hb2⟩
        have HB2 : Hid (Below w.heap.size w w2) := HR.out.1.trans (hb2.mono HR.out.1.size)
        clear hb2
        go_wp2_with fail
        go_ret
        exact ⟨by rw [← HI.out.2.1, HE.out]; rfl, HB2.out⟩
    · cases s' with
      | last l => exact absurd (Or.inr rfl) hk
      | more l n k =>
        obtain ⟨x0, x1, b, o, y0, y1, y2, ws, hset, hL, hn, hb, hkk, hc⟩ := HI.out.2.2.2
        obtain ⟨e0, e1, e2, g0, g1, g2, hws, _, _⟩ := hkk.cells
        subst hws
        simp only [St.ly, St.nk, setV] at *
        have hf2 : f2 = some ⟨b, o, none⟩ := by
          have := congrArg (fun z : List Value => z[5]?) hset
          simpa using (by simpa using this : f2 = some ⟨b, o, none⟩ ∧ d2 = y2).1
        subst hf2
        have cc : ∀ q v, [Value.int .i64 k.ly.kind, .string k.ly.name, .slice e0 k.ly.names.length g0, .slice e1 k.ly.asn.length g1, .string k.ly.pre, .slice e2 k.nk g2][q]? = some v → wr.cell? ⟨b, o + q, none⟩ = some v := fun q v hq => (HR.out.1.cell (p := ⟨b, o + q, none⟩) (Nat.lt_of_lt_of_le hb HH.out.2.1)).trans (hc q v hq)
        have k0 := cc 0 _ rfl
        have k1 := cc 1 _ rfl
        have k2 := cc 2 _ rfl
        have k3 := cc 3 _ rfl
        have k4 := cc 4 _ rfl
        have k5 := cc 5 _ rfl
        simp only [Nat.add_zero] at k0
        have hne : l.kind ≠ 1 := fun q => hk (Or.inl q)
        have t1 : (l.kind == 1) = false := by simpa using hne
        have t2 : ((n : Int) + 1 == 0) = false := by simp; omega
        have z : ∀ q, wr.frozen? ⟨w.heap.size, q, none⟩ = false := fun q => by simp [World.frozen?, HR.out.2]
        have z0 := z 0
        have z1 := z 1
        have z2 := z 2
        have z3 := z 3
        have z4 := z 4
        have z5 := z 5
        have v2 : wr.cell? ⟨w.heap.size, 2, none⟩ = some (.slice f0 l.names.length d0) := by simp only [World.cell?, HR.out.2]; rfl
        have v3 : wr.cell? ⟨w.heap.size, 3, none⟩ = some (.slice f1 l.asn.length d1) := by simp only [World.cell?, HR.out.2]; rfl
        have v4 : wr.cell? ⟨w.heap.size, 4, none⟩ = some (.string l.pre) := by simp only [World.cell?, HR.out.2]; rfl
        have HKI : Hid (i + 1 + depS k = depS s ∧ libS k = libS s ∧ SmallS k ∧ LiesS B w k (setV k.ly e0 e1 e2 g0 g1 g2 k.nk)) := by
          obtain ⟨q1, q2, q3, _⟩ := HI.out
          simp only [depS] at q1
          refine ⟨by omega, ?_, q3.2, hkk⟩
          rw [← q2]
          simp [libS, hne]
        clear hk hset hL hkk hc cc z hne
        go_wp2_with fail
        have HS : Hid (Below w.heap.size w ((((((wr.setCell ⟨w.heap.size, 0, none⟩ (.int .i64 k.ly.kind)).setCell ⟨w.heap.size, 1, none⟩ (.string k.ly.name)).setCell ⟨w.heap.size, 2, none⟩ (.slice e0 k.ly.names.length g0)).setCell ⟨w.heap.size, 3, none⟩ (.slice e1 k.ly.asn.length g1)).setCell ⟨w.heap.size, 4, none⟩ (.string k.ly.pre)).setCell ⟨w.heap.size, 5, none⟩ (.slice e2 k.nk g2))) :=
          (((((HR.out.1.setCell (p := ⟨w.heap.size, 0, none⟩) (Nat.le_refl _) _).setCell (p := ⟨w.heap.size, 1, none⟩) (Nat.le_refl _) _).setCell (p := ⟨w.heap.size, 2, none⟩) (Nat.le_refl _) _).setCell (p := ⟨w.heap.size, 3, none⟩) (Nat.le_refl _) _).setCell (p := ⟨w.heap.size, 4, none⟩) (Nat.le_refl _) _).setCell (p := ⟨w.heap.size, 5, none⟩) (Nat.le_refl _) _
        exact ⟨⟨i + 1, k, e0, e1, e2, g0, g1, g2, by go_num, HKI.out, HS.out, set6 HR.out.2 _ _ _ _ _ _⟩, by simp [intOf]; omega⟩
end Go.Proofs.Ytckiihbnjfeplaa
