/- What text.Read gives; faults. -/
import Derived.Test.YtonafbennobgdaaGreatDoorK02
import Derived.Test.YtonafbennobgdaaGreatDoorK23
import Derived.Test.YtonafbennobgdaaGreatDoorK30
namespace Go.Proofs.YtonafbennobgdaaGreatDoor.R1
set_option linter.unusedVariables false
set_option linter.unusedSimpArgs false
section
open Go.RowKit
theorem let_not {c : UInt8} (h : letB (c.toNat : Int) = true) : c ≠ 40 ∧ c ≠ 39 ∧ c ≠ 35 ∧ c ≠ 59 ∧ c ≠ 41 ∧ isBlank c = false := by
 refine ⟨?_, ?_, ?_, ?_, ?_, ?_⟩
 ·rintro rfl; exact absurd h (by decide)
 ·rintro rfl; exact absurd h (by decide)
 ·rintro rfl; exact absurd h (by decide)
 ·rintro rfl; exact absurd h (by decide)
 ·rintro rfl; exact absurd h (by decide)
 cases hb : isBlank c with
 | false => rfl
 | true =>
  unfold isBlank at hb
  simp at hb
  rcases hb with (rfl | rfl) | rfl <;> exact absurd h (by decide)
theorem byteL_cons (c : UInt8) (r : List UInt8) : byteL (c :: r) = if letB (c.toNat : Int) then c :: byteL r else [] := by
 simp [byteL, List.takeWhile_cons]
/-! A fault has a number. -/
theorem items_fault (g : Nat → Nat → Rd Dat) (l : List UInt8) (hg : ∀ i n x, g i n = .inl x → x.1 ≠ 0) : ∀ (k i n : Nat) (x : Int × Int), items g l k i n = .inl x → x.1 ≠ 0
 | 0, i, n, x, h => by
  simp [items] at h
  subst h
  simp
 | k + 1, i, n, x, h => by
  unfold items at h
  simp only at h
  generalize i + skipL (l.drop i) false = p at h
  cases hc : l[p]? with
  | none =>
   rw [hc] at h
   simp at h
   subst h
   simp
  | some c =>
   rw [hc] at h
   simp only at h
   by_cases h41 : c = 41
   ·rw [if_pos h41] at h; simp at h
   rw [if_neg h41] at h
   cases hgg : g p n with
   | inl e =>
    rw [hgg] at h
    simp at h
    subst h
    exact hg _ _ _ hgg
   | inr y =>
    obtain ⟨d, j1, m1⟩ := y
    rw [hgg] at h
    simp only at h
    cases hii : items g l k j1 m1 with
    | inl e =>
     rw [hii] at h
     simp at h
     subst h
     exact items_fault g l hg k _ _ _ hii
    | inr y =>
     obtain ⟨ds, j2, m2⟩ := y
     rw [hii] at h
     simp at h
theorem word_fault {w : List UInt8} {i n : Nat} {x : Int × Int} (h : wordAt w i n = .inl x) : x.1 ≠ 0 := by
 unfold wordAt at h
 split at h
 ·split at h
  ·simp at h; subst h; simp
  split at h
  ·simp at h
  simp at h; subst h; simp
 split at h
 ·simp at h; subst h; simp
 simp at h
theorem one_fault (l : List UInt8) : ∀ (f i n : Nat) (x : Int × Int), one l f i n = .inl x → x.1 ≠ 0
 | 0, i, n, x, h => by
  simp [one] at h
  subst h
  simp
 | f + 1, i, n, x, h => by
  unfold one at h
  split at h
  ·simp at h; subst h; simp
  split at h
  ·simp at h; subst h; simp
  split at h
  ·cases hit : items (one l f) l (l.length + 1) (i + 1) (n + 1) with
   | inl e =>
    rw [hit] at h
    simp at h
    subst h
    exact items_fault _ l (one_fault l f) _ _ _ _ hit
   | inr y =>
    obtain ⟨ds, j, m⟩ := y
    rw [hit] at h
    simp at h
  split at h
  ·split at h
   ·simp at h; subst h; simp
   cases ho : one l f (i + 1 + skipL (l.drop (i + 1)) false) (n + 2) with
   | inl e =>
    rw [ho] at h
    simp at h
    subst h
    exact one_fault l f _ _ _ ho
   | inr y =>
    obtain ⟨d, j, m⟩ := y
    rw [ho] at h
    simp at h
  split at h
  ·split at h
   ·simp at h
   split at h
   ·simp at h
   simp at h; subst h; simp
  split at h
  ·exact word_fault h
  simp at h; subst h; simp
end
section
open Go.RowKit
set_option maxRecDepth 100000
set_option maxHeartbeats 800000
structure Wk (rb : Nat) (s : ByteArray) (i n : Nat) (x : Int × Int) (w : World) : Prop where
 lt : rb < w.heap.size
 c0 : w.cell? ⟨rb, 0, none⟩ = some (.string s)
 c1 : w.cell? ⟨rb, 1, none⟩ = some (.int .i64 (i : Int))
 c2 : w.cell? ⟨rb, 2, none⟩ = some (.int .i64 (n : Int))
 c3 : w.cell? ⟨rb, 3, none⟩ = some (.int .i64 x.1)
 c4 : w.cell? ⟨rb, 4, none⟩ = some (.int .i64 x.2)
 z : ∀ o, w.frozen? ⟨rb, o, none⟩ = false
section
variable {rb : Nat} {s : ByteArray} {i n : Nat} {x : Int × Int} {w w' : World}
theorem Wk.below (h : Wk rb s i n x w) (hb : Below w.heap.size w w') : Wk rb s i n x w' :=
 ⟨Nat.lt_of_lt_of_le h.lt hb.size, (hb.cell (p := ⟨rb, 0, none⟩) h.lt).trans h.c0, (hb.cell (p := ⟨rb, 1, none⟩) h.lt).trans h.c1, (hb.cell (p := ⟨rb, 2, none⟩) h.lt).trans h.c2,
  (hb.cell (p := ⟨rb, 3, none⟩) h.lt).trans h.c3, (hb.cell (p := ⟨rb, 4, none⟩) h.lt).trans h.c4, fun o => (hb.frozen (p := ⟨rb, o, none⟩) h.lt).trans (h.z o)⟩
theorem Wk.alloc (h : Wk rb s i n x w) (o : Obj) : Wk rb s i n x (w.alloc o) := h.below ((Below.refl _ _).alloc (Nat.le_refl _) _)
theorem Wk.drew (h : Wk rb s i n x w) : Wk rb s i n x w.drew := ⟨h.lt, h.c0, h.c1, h.c2, h.c3, h.c4, h.z⟩
theorem Wk.drewN (h : Wk rb s i n x w) (k : Nat) : Wk rb s i n x (w.drewN k) := h.below (below_drewN (Below.refl _ _) k)
theorem Wk.put (h : Wk rb s i n x w) (p : Addr) (hp : p.block ≠ rb) (v : Value) : Wk rb s i n x (w.setCell p v) := by
 have e : ∀ o, (w.setCell p v).cell? ⟨rb, o, none⟩ = w.cell? ⟨rb, o, none⟩ := fun o => World.cell?_of_block (Below.heap_setCell _ _ _ _ (fun e => hp e.symm))
 have f : ∀ o, (w.setCell p v).frozen? ⟨rb, o, none⟩ = w.frozen? ⟨rb, o, none⟩ := fun o => World.frozen?_of_block (Below.heap_setCell _ _ _ _ (fun e => hp e.symm))
 exact ⟨by simp [World.setCell]; exact h.lt, (e _).trans h.c0, (e _).trans h.c1, (e _).trans h.c2, (e _).trans h.c3, (e _).trans h.c4, fun o => (f o).trans (h.z o)⟩
theorem Wk.move (h : Wk rb s i n x w) (j : Nat) (v : Int) (hv : v = (j : Int)) : Wk rb s j n x (w.setCell ⟨rb, 1, none⟩ (.int .i64 v)) := by
 subst hv
 have e : ∀ o, o ≠ 1 → (w.setCell ⟨rb, 1, none⟩ (.int .i64 (j : Int))).cell? ⟨rb, o, none⟩ = w.cell? ⟨rb, o, none⟩ := fun o ho => World.cell?_setCell_other _ _ _ _ (by simp [ho])
 exact ⟨by simp [World.setCell]; exact h.lt, (e 0 (by omega)).trans h.c0, World.cell?_setCell_same _ _ _ h.c1, (e 2 (by omega)).trans h.c2, (e 3 (by omega)).trans h.c3, (e 4 (by omega)).trans h.c4, fun o => by rw [World.frozen?_setCell]; exact h.z o⟩
theorem Wk.tick (h : Wk rb s i n x w) (m : Nat) (v : Int) (hv : v = (m : Int)) : Wk rb s i m x (w.setCell ⟨rb, 2, none⟩ (.int .i64 v)) := by
 subst hv
 have e : ∀ o, o ≠ 2 → (w.setCell ⟨rb, 2, none⟩ (.int .i64 (m : Int))).cell? ⟨rb, o, none⟩ = w.cell? ⟨rb, o, none⟩ := fun o ho => World.cell?_setCell_other _ _ _ _ (by simp [ho])
 exact ⟨by simp [World.setCell]; exact h.lt, (e 0 (by omega)).trans h.c0, (e 1 (by omega)).trans h.c1, World.cell?_setCell_same _ _ _ h.c2, (e 3 (by omega)).trans h.c3, (e 4 (by omega)).trans h.c4, fun o => by rw [World.frozen?_setCell]; exact h.z o⟩
theorem Wk.fell (h : Wk rb s i n x w) (y : Int × Int) : Wk rb s i n y ((w.setCell ⟨rb, 3, none⟩ (.int .i64 y.1)).setCell ⟨rb, 4, none⟩ (.int .i64 y.2)) := by
 have e : ∀ o, o ≠ 3 → (w.setCell ⟨rb, 3, none⟩ (.int .i64 y.1)).cell? ⟨rb, o, none⟩ = w.cell? ⟨rb, o, none⟩ := fun o ho => World.cell?_setCell_other _ _ _ _ (by simp [ho])
 have g : ∀ o, o ≠ 4 → ((w.setCell ⟨rb, 3, none⟩ (.int .i64 y.1)).setCell ⟨rb, 4, none⟩ (.int .i64 y.2)).cell? ⟨rb, o, none⟩ = (w.setCell ⟨rb, 3, none⟩ (.int .i64 y.1)).cell? ⟨rb, o, none⟩ := fun o ho => World.cell?_setCell_other _ _ _ _ (by simp [ho])
 refine ⟨by simp [World.setCell]; exact h.lt, ((g 0 (by omega)).trans (e 0 (by omega))).trans h.c0, ((g 1 (by omega)).trans (e 1 (by omega))).trans h.c1, ((g 2 (by omega)).trans (e 2 (by omega))).trans h.c2, ?_, ?_, fun o => by rw [World.frozen?_setCell, World.frozen?_setCell]; exact h.z o⟩
 ·exact (g 3 (by omega)).trans (World.cell?_setCell_same _ _ _ h.c3)
 exact World.cell?_setCell_same _ _ _ ((e 4 (by omega)).trans h.c4)
end
theorem good_any (rb : Nat) (s : ByteArray) (i n : Nat) (x : Int × Int) (w : World) (h : Wk rb s i n x w) :
 Calls Tryz.prog 84 #[.pointer (some ⟨rb, 0, none⟩)] w fun e w' => e = .returned (.bool (x.1 == 0)) ∧ w' = w := by
 have c3 := h.c3
 clear h
 go_enter Tryz.func84, Tryz.ntmps84
 go_wp2_with fail
 go_ret
 exact ⟨rfl, rfl⟩
theorem stop_any (rb : Nat) (s : ByteArray) (i n : Nat) (y1 y2 : Int) (w : World) (h : Wk rb s i n (0, 0) w) :
 Calls Tryz.prog 115 #[.pointer (some ⟨rb, 0, none⟩), .int .i64 y1, .int .i64 y2] w fun e w' => e = .returned (.tuple #[]) ∧ Keep rb w w' ∧ Wk rb s i n (y1, y2) w' := by
 have c3 := h.c3
 have c4 := h.c4
 have z3 := h.z 3
 have z4 := h.z 4
 have HR : Hid (Wk rb s i n (0, 0) w) := h
 clear h
 simp only at c3 c4
 go_enter Tryz.func115, Tryz.ntmps115
 go_wp2_with fail
 go_end0
 exact ⟨rfl, ((Keep.refl rb w).setCell ⟨rb, 3, none⟩ rfl _).setCell ⟨rb, 4, none⟩ rfl _, HR.out.fell (y1, y2)⟩
theorem Sym_any (nm : ByteArray) (w : World) :
 Calls Tryz.prog 21 #[.string nm] w fun e w' => e = .returned (dv ⟨3, 0, nm, 0, 0, []⟩ none 0) ∧ Below w.heap.size w w' := by
 go_enter Tryz.func21, Tryz.ntmps21
 go_wp2_with fail
 refine bodyPost_ret (v := dv ⟨3, 0, nm, 0, 0, []⟩ none 0) (by simp [results, Tryz.results21, go_sem, dv]) rfl ⟨rfl, ?_⟩
 exact (Below.refl _ _).alloc (Nat.le_refl _) _
theorem Num_any (n : Int) (w : World) :
 Calls Tryz.prog 116 #[.int .i64 n] w fun e w' => e = .returned (dv ⟨1, n, ⟨#[]⟩, 0, 0, []⟩ none 0) ∧ Below w.heap.size w w' := by
 go_enter Tryz.func116, Tryz.ntmps116
 go_wp2_with fail
 refine bodyPost_ret (v := dv ⟨1, n, ⟨#[]⟩, 0, 0, []⟩ none 0) (by simp [results, Tryz.results116, go_sem, dv]) rfl ⟨rfl, ?_⟩
 exact (Below.refl _ _).alloc (Nat.le_refl _) _
theorem List_any (a : Option Addr) (n cap : Nat) (w : World) :
 Calls Tryz.prog 20 #[.slice a n cap] w fun e w' => e = .returned (.agg #[.int .i64 4, .int .i64 0, .string ⟨#[]⟩, .int .i64 0, .int .i64 0, .slice a n cap]) ∧ Below w.heap.size w w' := by
 go_enter Tryz.func20, Tryz.ntmps20
 go_wp2_with fail
 refine bodyPost_ret (v := .agg #[.int .i64 4, .int .i64 0, .string ⟨#[]⟩, .int .i64 0, .int .i64 0, .slice a n cap]) (by simp [results, Tryz.results20, go_sem]) rfl ⟨rfl, ?_⟩
 exact (Below.refl _ _).alloc (Nat.le_refl _) _
end
section
open Go.RowKit
set_option maxRecDepth 100000
set_option maxHeartbeats 1600000
theorem skip_go {l : List UInt8} {j : Nat} {c : UInt8} {b : Bool} (h : l[j]? = some c) (hg : (noted c b || isBlank c) = true) : j + skipL (l.drop j) b = (j + 1) + skipL (l.drop (j + 1)) (noted c b) := by
 rw [drop_cons h]
 show j + (if noted c b || isBlank c then skipL (l.drop (j + 1)) (noted c b) + 1 else 0) = _
 rw [if_pos hg]
 omega
theorem skip_here {l : List UInt8} {j : Nat} {c : UInt8} {b : Bool} (h : l[j]? = some c) (hg : (noted c b || isBlank c) = false) : j + skipL (l.drop j) b = j := by
 rw [drop_cons h]
 show j + (if noted c b || isBlank c then skipL (l.drop (j + 1)) (noted c b) + 1 else 0) = _
 rw [if_neg (by rw [hg]; simp)]
 omega
theorem byte_is (c k : UInt8) : ((c.toNat : Int) == (k.toNat : Int)) = decide (c = k) := by
 by_cases e : c = k
 ·subst e; simp
 have : ¬ c.toNat = k.toNat := fun h => e (UInt8.toNat_inj.1 h)
 simp [e]
 omega
theorem rskip_any (rb : Nat) (s : ByteArray) (i n : Nat) (x : Int × Int) (w : World) (h : Wk rb s i n x w) (hi : i ≤ s.size) (hs : s.size ≤ 6000) :
 Calls Tryz.prog 83 #[.pointer (some ⟨rb, 0, none⟩)] w fun e w' => e = .returned (.tuple #[]) ∧ Keep rb w w' ∧ Wk rb s (i + skipL (s.data.toList.drop i) false) n x w' := by
 have HR : Hid (Wk rb s i n x w) := h
 clear h
 obtain ⟨t, HT⟩ : ∃ t, Hid (i + skipL (s.data.toList.drop i) false = t) := ⟨_, rfl⟩
 rw [HT.out]
 go_enter Tryz.func83, Tryz.ntmps83
 go_wp2_with fail
 go_loopg [2] (s.size - i) (fun g nb wr => ∃ (j : Nat) (b : Bool), nb = .bool b ∧ j ≤ s.size ∧ g = s.size - j ∧ Keep rb w wr ∧ Wk rb s j n x wr ∧ j + skipL (s.data.toList.drop j) b = t)
 case atStart => exact ⟨i, false, rfl, hi, rfl, Keep.refl _ _, HR.out, HT.out⟩
 obtain ⟨j, b, rfl, hj, rfl, hk, hr, he⟩ := hrel
 have HK : Hid (Keep rb w wr ∧ Wk rb s j n x wr) := ⟨hk, hr⟩
 have HE : Hid (j + skipL (s.data.toList.drop j) b = t) := he
 have hx := hr.lt
 have c0 := hr.c0
 have c1 := hr.c1
 have z1 := hr.z 1
 clear hk hr he HR HT
 by_cases hlt : j < s.size
 rotate_left
 ·obtain rfl : j = s.size := by omega
  have HEQ : Hid (s.size = t) := by
   have := HE.out
   rw [List.drop_of_length_le (by rw [Array.length_toList]; exact Nat.le_refl _)] at this
   exact this
  go_wp2_with fail
  go_quiet (fail)
  go_wp2_with fail
  go_end0
  rw [← HEQ.out]
  exact ⟨rfl, HK.out.1.drewN _, HK.out.2.drewN _⟩
 have HAT : Hid (s.data.toList[j]? = some s[j]) := at_of hlt
 have HGO : Hid ((noted s[j] b || isBlank s[j]) = true → (j + 1) + skipL (s.data.toList.drop (j + 1)) (noted s[j] b) = t) := fun hb => (skip_go HAT.out hb).symm.trans HE.out
 have HST : Hid ((noted s[j] b || isBlank s[j]) = false → j = t) := fun hb => (skip_here HAT.out hb).symm.trans HE.out
 have HB : Hid (∀ k : UInt8, ((s[j].toNat : Int) == (k.toNat : Int)) = decide (s[j] = k)) := fun k => byte_is _ _
 by_cases h10 : s[j] = 10
 ·have e10 : ((s[j].toNat : Int) == 10) = true := by rw [h10]; rfl
  have e59 : ((s[j].toNat : Int) == 59) = false := by rw [h10]; rfl
  have m10 : ((s[j].toNat : Int) != 10) = false := by rw [h10]; rfl
  have m32 : ((s[j].toNat : Int) != 32) = true := by rw [h10]; rfl
  have m9 : ((s[j].toNat : Int) != 9) = true := by rw [h10]; rfl
  have HN : Hid (noted s[j] b = false ∧ isBlank s[j] = true) := by rw [h10]; exact ⟨rfl, rfl⟩
  clear h10
  go_wp2_with fail
  go_quiet (fail)
  go_wp2_with fail
  go_quiet (fail)
  go_wp2_with fail
  go_roundg (s.size - (j + 1))
  case measure => omega
  case rel =>
   refine ⟨j + 1, false, rfl, by omega, rfl, ?_, ?_, by rw [← HN.out.1]; exact HGO.out (by rw [HN.out.2, Bool.or_true])⟩
   ·exact (HK.out.1.drewN _).setCell _ rfl _
   exact (HK.out.2.drewN _).move _ _ (by omega)
 have e10 : ((s[j].toNat : Int) == 10) = false := by rw [show ((10 : Int)) = ((10 : UInt8).toNat : Int) from rfl, HB.out]; simpa using h10
 have m10 : ((s[j].toNat : Int) != 10) = true := by simp only [bne, e10]; rfl
 by_cases h59 : s[j] = 59
 ·have e59 : ((s[j].toNat : Int) == 59) = true := by rw [h59]; rfl
  have HN : Hid (noted s[j] b = true) := by rw [h59]; rfl
  clear h10 h59
  go_wp2_with fail
  go_quiet (fail)
  go_wp2_with fail
  go_quiet (fail)
  go_wp2_with fail
  go_roundg (s.size - (j + 1))
  case measure => omega
  case rel =>
   refine ⟨j + 1, true, rfl, by omega, rfl, ?_, ?_, by rw [← HN.out]; exact HGO.out (by rw [HN.out, Bool.true_or])⟩
   ·exact (HK.out.1.drewN _).setCell _ rfl _
   exact (HK.out.2.drewN _).move _ _ (by omega)
 have e59 : ((s[j].toNat : Int) == 59) = false := by rw [show ((59 : Int)) = ((59 : UInt8).toNat : Int) from rfl, HB.out]; simpa using h59
 have HN : Hid (noted s[j] b = b) := by
  show noted s[j] b = b
  unfold noted
  rw [if_neg h59, if_neg h10]
 cases b with
 | true =>
  clear h10 h59
  go_wp2_with fail
  go_quiet (fail)
  go_wp2_with fail
  go_quiet (fail)
  go_wp2_with fail
  go_roundg (s.size - (j + 1))
  case measure => omega
  case rel =>
   refine ⟨j + 1, true, rfl, by omega, rfl, ?_, ?_, ?_⟩
   ·exact (HK.out.1.drewN _).setCell _ rfl _
   ·exact (HK.out.2.drewN _).move _ _ (by omega)
   have := HGO.out (by rw [HN.out, Bool.true_or])
   rw [HN.out] at this
   exact this
 | false =>
  by_cases h32 : s[j] = 32
  ·have m32 : ((s[j].toNat : Int) != 32) = false := by rw [h32]; rfl
   have HBL : Hid (isBlank s[j] = true) := by rw [h32]; rfl
   clear h10 h59 h32
   go_wp2_with fail
   go_quiet (fail)
   go_wp2_with fail
   go_quiet (fail)
   go_wp2_with fail
   go_roundg (s.size - (j + 1))
   case measure => omega
   case rel =>
    refine ⟨j + 1, false, rfl, by omega, rfl, ?_, ?_, ?_⟩
    ·exact (HK.out.1.drewN _).setCell _ rfl _
    ·exact (HK.out.2.drewN _).move _ _ (by omega)
    have := HGO.out (by rw [HBL.out, Bool.or_true])
    rw [HN.out] at this
    exact this
  have m32 : ((s[j].toNat : Int) != 32) = true := by
   have e32 : ((s[j].toNat : Int) == 32) = false := by rw [show ((32 : Int)) = ((32 : UInt8).toNat : Int) from rfl, HB.out]; simpa using h32
   simp only [bne, e32]; rfl
  by_cases h9 : s[j] = 9
  ·have m9 : ((s[j].toNat : Int) != 9) = false := by rw [h9]; rfl
   have HBL : Hid (isBlank s[j] = true) := by rw [h9]; rfl
   clear h10 h59 h32 h9
   go_wp2_with fail
   go_quiet (fail)
   go_wp2_with fail
   go_quiet (fail)
   go_wp2_with fail
   go_roundg (s.size - (j + 1))
   case measure => omega
   case rel =>
    refine ⟨j + 1, false, rfl, by omega, rfl, ?_, ?_, ?_⟩
    ·exact (HK.out.1.drewN _).setCell _ rfl _
    ·exact (HK.out.2.drewN _).move _ _ (by omega)
    have := HGO.out (by rw [HBL.out, Bool.or_true])
    rw [HN.out] at this
    exact this
  have m9 : ((s[j].toNat : Int) != 9) = true := by
   have e9 : ((s[j].toNat : Int) == 9) = false := by rw [show ((9 : Int)) = ((9 : UInt8).toNat : Int) from rfl, HB.out]; simpa using h9
   simp only [bne, e9]; rfl
  have HEQ : Hid (j = t) := HST.out (by rw [HN.out]; unfold isBlank; simp [h32, h9, h10])
  clear h10 h59 h32 h9
  go_wp2_with fail
  go_quiet (fail)
  go_wp2_with fail
  go_quiet (fail)
  go_wp2_with fail
  refine bodyPost_ret (results_none rfl _ _ _) rfl ?_
  rw [← HEQ.out]
  exact ⟨rfl, HK.out.1.drewN _, HK.out.2.drewN _⟩
theorem rcount_ok (rb : Nat) (s : ByteArray) (i n : Nat) (dp at_ : Int) (w : World) (h : Wk rb s i n (0, 0) w) (hn : n ≤ 1999) (hd : dp ≤ 40) :
 Calls Tryz.prog 114 #[.pointer (some ⟨rb, 0, none⟩), .int .i64 dp, .int .i64 at_] w fun e w' => e = .returned (.tuple #[]) ∧ Keep rb w w' ∧ Wk rb s i (n + 1) (0, 0) w' := by
 have c2 := h.c2
 have z2 := h.z 2
 have HR : Hid (Wk rb s i n (0, 0) w) := h
 clear h
 go_enter Tryz.func114, Tryz.ntmps114
 go_wp2_with fail
 go_end0
 exact ⟨rfl, (Keep.refl _ _).setCell _ rfl _, HR.out.tick (n + 1) _ (by omega)⟩
theorem rcount_much (rb : Nat) (s : ByteArray) (i n : Nat) (dp at_ : Int) (w : World) (h : Wk rb s i n (0, 0) w) (hn : n = 2000) :
 Calls Tryz.prog 114 #[.pointer (some ⟨rb, 0, none⟩), .int .i64 dp, .int .i64 at_] w fun e w' => e = .returned (.tuple #[]) ∧ Keep rb w w' ∧ Wk rb s i (n + 1) (4, at_) w' := by
 subst hn
 have c2 := h.c2
 have z2 := h.z 2
 have HR : Hid (Wk rb s i 2000 (0, 0) w) := h
 clear h
 go_enter Tryz.func114, Tryz.ntmps114
 go_wp2_with fail
 refine (stop_any rb s i (2000 + 1) 4 at_ _ (HR.out.tick (2000 + 1) _ rfl)).mono ?_
 rintro e w1 ⟨rfl, hk, hr⟩
 have H1 : Hid (Keep rb w w1 ∧ Wk rb s i (2000 + 1) (4, at_) w1) := ⟨((Keep.refl rb w).setCell _ rfl _).trans hk, hr⟩
 clear hk hr c2 z2 HR
 go_wp2_with fail
 go_end0
 exact ⟨rfl, H1.out.1, H1.out.2⟩
theorem rcount_deep (rb : Nat) (s : ByteArray) (i n : Nat) (at_ : Int) (w : World) (h : Wk rb s i n (0, 0) w) (hn : n ≤ 1999) :
 Calls Tryz.prog 114 #[.pointer (some ⟨rb, 0, none⟩), .int .i64 41, .int .i64 at_] w fun e w' => e = .returned (.tuple #[]) ∧ Keep rb w w' ∧ Wk rb s i (n + 1) (4, at_) w' := by
 have c2 := h.c2
 have z2 := h.z 2
 have HR : Hid (Wk rb s i n (0, 0) w) := h
 clear h
 go_enter Tryz.func114, Tryz.ntmps114
 go_wp2_with fail
 refine (stop_any rb s i (n + 1) 4 at_ _ (HR.out.tick (n + 1) _ (by omega))).mono ?_
 rintro e w1 ⟨rfl, hk, hr⟩
 have H1 : Hid (Keep rb w w1 ∧ Wk rb s i (n + 1) (4, at_) w1) := ⟨((Keep.refl rb w).setCell _ rfl _).trans hk, hr⟩
 clear hk hr c2 z2 HR
 go_wp2_with fail
 go_end0
 exact ⟨rfl, H1.out.1, H1.out.2⟩
end
section
open Go.RowKit
set_option maxRecDepth 100000
set_option maxHeartbeats 1600000
def OutW (rb : Nat) (s : ByteArray) (r : Rd Dat) (w : World) (e : Ending) (w' : World) : Prop :=
 match r with
 | .inl x => Keep rb w w' ∧ ∃ (d : Dat) (a : Option Addr) (cap : Nat), e = .returned (dv d a cap) ∧ ∃ j m, j ≤ s.size ∧ Wk rb s j m x w'
 | .inr (d, j, m) => Keep rb w w' ∧ Wk rb s j m (0, 0) w' ∧ ∃ a cap f, e = .returned (dv d a cap) ∧ Dw (NewT w w') w' f a cap d.kids
theorem letter_is (c : UInt8) (w : World) : Calls Tryz.prog 112 #[.int .u8 (c.toNat : Int)] w fun e w' => e = .returned (.bool (letB (c.toNat : Int))) ∧ Below w.heap.size w w' := by
 have := c.toNat_lt
 exact Letter_any (c.toNat : Int) (by omega) (by omega) w
def dat0 : Dat := ⟨0, 0, ⟨#[]⟩, 0, 0, []⟩
theorem good_yes (rb : Nat) (s : ByteArray) (i n : Nat) (w : World) (h : Wk rb s i n (0, 0) w) : Calls Tryz.prog 84 #[.pointer (some ⟨rb, 0, none⟩)] w fun e w' => e = .returned (.bool true) ∧ w' = w := good_any rb s i n (0, 0) w h
theorem good_no (rb : Nat) (s : ByteArray) (i n : Nat) (x : Int × Int) (w : World) (h : Wk rb s i n x w) (hx : x.1 ≠ 0) : Calls Tryz.prog 84 #[.pointer (some ⟨rb, 0, none⟩)] w fun e w' => e = .returned (.bool false) ∧ w' = w := by
 have := good_any rb s i n x w h
 rw [show (x.1 == 0) = false from by simpa using hx] at this
 exact this
theorem Wk.six {rb N : Nat} {s : ByteArray} {i n : Nat} {x : Int × Int} {w : World} (h : Wk rb s i n x w) (hN : N ≠ rb) (v0 v1 v2 v3 v4 v5 : Value) :
 Wk rb s i n x ((((((w.setCell ⟨N, 0, none⟩ v0).setCell ⟨N, 1, none⟩ v1).setCell ⟨N, 2, none⟩ v2).setCell ⟨N, 3, none⟩ v3).setCell ⟨N, 4, none⟩ v4).setCell ⟨N, 5, none⟩ v5) :=
 (((((h.put ⟨N, 0, none⟩ hN _).put ⟨N, 1, none⟩ hN _).put ⟨N, 2, none⟩ hN _).put ⟨N, 3, none⟩ hN _).put ⟨N, 4, none⟩ hN _).put ⟨N, 5, none⟩ hN _
structure Hd (rb : Nat) (s : ByteArray) (i n : Nat) (w w2 : World) : Prop where
 keep : Keep rb w w2
 wk : Wk rb s i n (0, 0) w2
 six : Six w.heap.size w2
theorem Hd.more {rb : Nat} {s : ByteArray} {i n : Nat} {w w2 w3 : World} (h : Hd rb s i n w w2) (hb : Below w2.heap.size w2 w3) : Hd rb s i n w w3 := ⟨h.keep.below hb, h.wk.below hb, h.six.after hb⟩
theorem Hd.kept {rb : Nat} {s : ByteArray} {i n j m : Nat} {w w2 w3 : World} (h : Hd rb s i n w w2) (hk : Keep rb w2 w3) (hw : Wk rb s j m (0, 0) w3) (hN : w.heap.size ≠ rb) : Hd rb s j m w w3 := ⟨h.keep.trans hk, hw, h.six.keep hk hN⟩
theorem Hd.drewN {rb : Nat} {s : ByteArray} {i n : Nat} {w w2 : World} (h : Hd rb s i n w w2) (k : Nat) : Hd rb s i n w (w2.drewN k) := h.more (below_drewN (Below.refl _ _) k)
theorem Hd.move {rb : Nat} {s : ByteArray} {i n : Nat} {w w2 : World} (h : Hd rb s i n w w2) (hN : w.heap.size ≠ rb) (j : Nat) (v : Int) (hv : v = (j : Int)) : Hd rb s j n w (w2.setCell ⟨rb, 1, none⟩ (.int .i64 v)) :=
 h.kept ((Keep.refl rb w2).setCell ⟨rb, 1, none⟩ rfl _) (h.wk.move j v hv) hN
theorem One_much (rb : Nat) (s : ByteArray) (i n : Nat) (dp : Int) (w : World) (h : Wk rb s i n (0, 0) w) (hi : i ≤ s.size) (hn : n = 2000 ∨ (n ≤ 1999 ∧ dp = 41)) :
 Calls Tryz.prog 85 #[.pointer (some ⟨rb, 0, none⟩), .int .i64 dp] w (OutW rb s (.inl (4, (i : Int))) w) := by
 have CT : Hid (∀ w, Wk rb s i n (0, 0) w → Calls Tryz.prog 114 #[.pointer (some ⟨rb, 0, none⟩), .int .i64 dp, .int .i64 (i : Int)] w fun e w' => e = .returned (.tuple #[]) ∧ Keep rb w w' ∧ Wk rb s i (n + 1) (4, (i : Int)) w') := fun w h => by
  rcases hn with hn | ⟨hn, hd⟩
  ·exact rcount_much rb s i n dp i w h hn
  rw [hd]; exact rcount_deep rb s i n i w h hn
 have HR : Hid (Wk rb s i n (0, 0) w) := h
 have c1 := h.c1
 have l1 := h.lt
 clear h hn
 go_enter Tryz.func85, Tryz.ntmps85
 go_wp2_with fail
 refine (CT.out _ (HR.out.alloc _)).mono ?_
 rintro e w1 ⟨rfl, hk1, hr1⟩
 have hsix : Six w.heap.size w1 := (Six.made w).keep hk1 (Nat.ne_of_gt l1)
 obtain ⟨x0, x1, x2, x3, x4, x5, x6, x7⟩ := hsix
 have H1 : Hid (Keep rb w w1 ∧ Wk rb s i (n + 1) (4, (i : Int)) w1) := ⟨((Keep.refl rb w).alloc _).trans hk1, hr1⟩
 clear hk1 hr1 c1 HR CT
 go_wp2_with fail
 refine (good_no rb s i (n + 1) (4, (i : Int)) _ H1.out.2 (by simp)).mono ?_
 rintro e w2 ⟨rfl, rfl⟩
 go_wp2_with fail
 refine bodyPost_ret (v := dv dat0 none 0) (by simp [results, Tryz.results85, go_sem, dv, dat0, x1, x2, x3, x4, x5, x6]) rfl ?_
 exact ⟨keep_six H1.out.1 (Nat.le_refl _) _ _ _ _ _ _, dat0, none, 0, rfl, i, n + 1, hi, H1.out.2.six (Nat.ne_of_gt l1) _ _ _ _ _ _⟩
theorem One_end (rb : Nat) (s : ByteArray) (i n : Nat) (dp : Int) (w : World) (h : Wk rb s i n (0, 0) w) (hi : i = s.size) (hs : s.size ≤ 6000) (hn : n ≤ 1999) (hd : dp ≤ 40) :
 Calls Tryz.prog 85 #[.pointer (some ⟨rb, 0, none⟩), .int .i64 dp] w (OutW rb s (.inl (2, (i : Int))) w) := by
 subst hi
 have HR : Hid (Wk rb s s.size n (0, 0) w) := h
 have c1 := h.c1
 have l1 := h.lt
 have hN : w.heap.size ≠ rb := Nat.ne_of_gt l1
 clear h
 go_enter Tryz.func85, Tryz.ntmps85
 go_wp2_with fail
 refine (rcount_ok rb s s.size n dp s.size _ (HR.out.alloc _) hn hd).mono ?_
 rintro e w1 ⟨rfl, hk1, hr1⟩
 have H1 : Hid (Hd rb s s.size (n + 1) w w1) := ⟨((Keep.refl rb w).alloc _).trans hk1, hr1, (Six.made w).keep hk1 hN⟩
 clear hk1 hr1 c1 HR
 go_wp2_with fail
 refine (good_yes rb s s.size (n + 1) _ H1.out.wk).mono ?_
 rintro e w2 ⟨rfl, rfl⟩
 have c0 := H1.out.wk.c0
 have c1 := H1.out.wk.c1
 have z1 := H1.out.wk.z 1
 go_wp2_with fail
 refine (stop_any rb s s.size (n + 1) 2 s.size _ H1.out.wk).mono ?_
 rintro e w3 ⟨rfl, hk3, hr3⟩
 obtain ⟨x0, x1, x2, x3, x4, x5, x6, x7⟩ := H1.out.six.keep hk3 hN
 have H3 : Hid (Keep rb w w3 ∧ Wk rb s s.size (n + 1) (2, (s.size : Int)) w3) := ⟨H1.out.keep.trans hk3, hr3⟩
 clear hk3 hr3 H1 c0 c1 z1
 go_wp2_with fail
 refine bodyPost_ret (v := dv dat0 none 0) (by simp [results, Tryz.results85, go_sem, dv, dat0, x1, x2, x3, x4, x5, x6]) rfl ?_
 exact ⟨keep_six H3.out.1 (Nat.le_refl _) _ _ _ _ _ _, dat0, none, 0, rfl, s.size, n + 1, Nat.le_refl _, H3.out.2.six hN _ _ _ _ _ _⟩
theorem One_bad (rb : Nat) (s : ByteArray) (i n : Nat) (dp : Int) (w : World) (h : Wk rb s i n (0, 0) w) (hi : i < s.size) (hs : s.size ≤ 6000) (hn : n ≤ 1999) (hd : dp ≤ 40) (h40 : s[i] ≠ 40) (h39 : s[i] ≠ 39) (h35 : s[i] ≠ 35) (hl : letB (s[i].toNat : Int) = false) :
 Calls Tryz.prog 85 #[.pointer (some ⟨rb, 0, none⟩), .int .i64 dp] w (OutW rb s (.inl (2, (i : Int))) w) := by
 have e40 : ((s[i].toNat : Int) == 40) = false := by rw [show ((40 : Int)) = ((40 : UInt8).toNat : Int) from rfl, byte_is]; simpa using h40
 have e39 : ((s[i].toNat : Int) == 39) = false := by rw [show ((39 : Int)) = ((39 : UInt8).toNat : Int) from rfl, byte_is]; simpa using h39
 have e35 : ((s[i].toNat : Int) == 35) = false := by rw [show ((35 : Int)) = ((35 : UInt8).toNat : Int) from rfl, byte_is]; simpa using h35
 have LT : Hid (∀ w, Calls Tryz.prog 112 #[.int .u8 (s[i].toNat : Int)] w fun e w' => e = .returned (.bool false) ∧ Below w.heap.size w w') := fun w => by
  have := letter_is s[i] w
  rw [hl] at this
  exact this
 clear h40 h39 h35 hl
 have HR : Hid (Wk rb s i n (0, 0) w) := h
 have c1 := h.c1
 have l1 := h.lt
 have hN : w.heap.size ≠ rb := Nat.ne_of_gt l1
 clear h
 go_enter Tryz.func85, Tryz.ntmps85
 go_wp2_with fail
 refine (rcount_ok rb s i n dp i _ (HR.out.alloc _) hn hd).mono ?_
 rintro e w1 ⟨rfl, hk1, hr1⟩
 have H1 : Hid (Hd rb s i (n + 1) w w1) := ⟨((Keep.refl rb w).alloc _).trans hk1, hr1, (Six.made w).keep hk1 hN⟩
 clear hk1 hr1 c1 HR
 go_wp2_with fail
 refine (good_yes rb s i (n + 1) _ H1.out.wk).mono ?_
 rintro e w2 ⟨rfl, rfl⟩
 have c0 := H1.out.wk.c0
 have c1 := H1.out.wk.c1
 have z1 := H1.out.wk.z 1
 go_wp2_with fail
 refine (LT.out _).mono ?_
 rintro e w3 ⟨rfl, hb3⟩
 have H3 : Hid (Hd rb s (i + 1) (n + 1) w w3) := (H1.out.move hN (i + 1) _ (by omega)).more hb3
 clear hb3 H1 c0 c1 z1 LT
 go_wp2_with fail
 refine (stop_any rb s (i + 1) (n + 1) 2 i _ H3.out.wk).mono ?_
 rintro e w4 ⟨rfl, hk4, hr4⟩
 obtain ⟨x0, x1, x2, x3, x4, x5, x6, x7⟩ := H3.out.six.keep hk4 hN
 have H4 : Hid (Keep rb w w4 ∧ Wk rb s (i + 1) (n + 1) (2, (i : Int)) w4) := ⟨H3.out.keep.trans hk4, hr4⟩
 clear hk4 hr4 H3
 go_wp2_with fail
 refine bodyPost_ret (v := dv dat0 none 0) (by simp [results, Tryz.results85, go_sem, dv, dat0, x1, x2, x3, x4, x5, x6]) rfl ?_
 exact ⟨keep_six H4.out.1 (Nat.le_refl _) _ _ _ _ _ _, dat0, none, 0, rfl, i + 1, n + 1, hi, H4.out.2.six hN _ _ _ _ _ _⟩
end
end Go.Proofs.YtonafbennobgdaaGreatDoor.R1
