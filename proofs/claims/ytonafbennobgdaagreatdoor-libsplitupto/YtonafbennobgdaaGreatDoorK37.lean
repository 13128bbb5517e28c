/- Chapter 3: a declaration, path by path. -/
import Derived.Test.YtonafbennobgdaaGreatDoorK36
namespace Go.Proofs.YtonafbennobgdaaGreatDoor
set_option linter.unusedVariables false
set_option linter.unusedSimpArgs false
open Go.RowKit

/-- No more than may be. -/
structure Inv (s : LibS) : Prop where
  e : s.exports.length ≤ 200
  i : s.imports.length ≤ 20
  b : s.body.length ≤ 200
theorem exportsF_inv : ∀ (a : List Dat) (s s' : LibS), Inv s → exportsF a s = .ok s' → Inv s' ∧ s'.name = s.name
  | [], s, s', hi, h => by rw [exportsF] at h; cases h; exact ⟨hi, rfl⟩
  | d :: r, s, s', hi, h => by
    rw [exportsF] at h
    cases he : exportF d with
    | no x => rw [he] at h; cases h
    | ok e =>
      rw [he] at h
      simp only [Er.bind] at h
      split at h
      · cases h
      · split at h
        · rename_i hl
          have := exportsF_inv r { s with exports := s.exports ++ [e] } s' ⟨by simp; omega, hi.i, hi.b⟩ h
          exact ⟨this.1, this.2⟩
        · cases h
theorem importsF_inv : ∀ (a : List Dat) (s s' : LibS), Inv s → importsF a s = .ok s' → Inv s' ∧ s'.name = s.name
  | [], s, s', hi, h => by rw [importsF] at h; cases h; exact ⟨hi, rfl⟩
  | d :: r, s, s', hi, h => by
    rw [importsF] at h
    split at h
    · rename_i hl
      cases he : setF 12 d with
      | no x => rw [he] at h; cases h
      | ok e =>
        rw [he] at h
        have := importsF_inv r { s with imports := s.imports ++ [e] } s' ⟨hi.e, by simp; omega, hi.b⟩ h
        exact ⟨this.1, this.2⟩
    · cases h
theorem addF_inv {l : List Dat} {s s' : LibS} (hi : Inv s) (h : addF l s = .ok s') : Inv s' ∧ s'.name = s.name := by
  unfold addF at h
  split at h
  · rename_i hl
    cases h
    exact ⟨⟨hi.e, hi.i, by simp; omega⟩, rfl⟩
  · cases h
theorem includeF_inv (E : Env) : ∀ (a : List Dat) (s s' : LibS), Inv s → includeF E a s = .ok s' → Inv s' ∧ s'.name = s.name
  | [], s, s', hi, h => by rw [includeF] at h; cases h; exact ⟨hi, rfl⟩
  | d :: r, s, s', hi, h => by
    rw [includeF] at h
    cases he : nameF d with
    | no x => rw [he] at h; cases h
    | ok n =>
      rw [he] at h
      simp only [Er.bind] at h
      split at h
      · cases h
      · split at h
        · cases h
        · rename_i ds _
          cases ha : addF ds s with
          | no x => rw [ha] at h; cases h
          | ok s2 =>
            rw [ha] at h
            obtain ⟨i1, n1⟩ := addF_inv hi ha
            obtain ⟨i2, n2⟩ := includeF_inv E r s2 s' i1 h
            exact ⟨i2, n2.trans n1⟩
mutual
theorem declD_inv (E : Env) : ∀ (d : Dat) (s s' : LibS), Inv s → declD E d s = .ok s' → Inv s' ∧ s'.name = s.name
  | ⟨k, n, nm, st, lb, ks⟩, s, s', hi, h => by
    rw [declD] at h
    split at h
    · exact declK_inv E ks s s' hi h
    · cases h
theorem declK_inv (E : Env) : ∀ (l : List Dat) (s s' : LibS), Inv s → declK E l s = .ok s' → Inv s' ∧ s'.name = s.name
  | [], s, s', hi, h => by rw [declK] at h; cases h
  | x :: r, s, s', hi, h => by
    have hC := declC_inv E r s s' hi
    rw [declK] at h
    split at h
    · split at h
      · split at h
        · cases h
        · exact exportsF_inv r s s' hi h
      · split at h
        · exact importsF_inv r s s' hi h
        · split at h
          · exact addF_inv hi h
          · split at h
            · exact includeF_inv E r s s' hi h
            · split at h
              · exact hC h
              · cases h
    · cases h
theorem declL_inv (E : Env) : ∀ (l : List Dat) (s s' : LibS), Inv s → declL E l s = .ok s' → Inv s' ∧ s'.name = s.name
  | [], s, s', hi, h => by rw [declL] at h; cases h; exact ⟨hi, rfl⟩
  | d :: r, s, s', hi, h => by
    rw [declL] at h
    cases hd : declD E d s with
    | no x => rw [hd] at h; cases h
    | ok s2 =>
      rw [hd] at h
      obtain ⟨i1, n1⟩ := declD_inv E d s s2 hi hd
      obtain ⟨i2, n2⟩ := declL_inv E r s2 s' i1 h
      exact ⟨i2, n2.trans n1⟩
theorem declC_inv (E : Env) : ∀ (l : List Dat) (s s' : LibS), Inv s → declC E l s = .ok s' → Inv s' ∧ s'.name = s.name
  | [], s, s', hi, h => by rw [declC] at h; cases h; exact ⟨hi, rfl⟩
  | c :: r, s, s', hi, h => by
    rw [declC] at h
    exact declB_inv E c _ (fun s s' hi h => declC_inv E r s s' hi h) s s' hi h
theorem declB_inv (E : Env) : ∀ (d : Dat) (k : LibS → Er LibS) (hk : ∀ s s', Inv s → k s = .ok s' → Inv s' ∧ s'.name = s.name) (s s' : LibS), Inv s → declB E d k s = .ok s' → Inv s' ∧ s'.name = s.name
  | ⟨k0, n, nm, st, lb, ks⟩, k, hk, s, s', hi, h => by
    rw [declB] at h
    split at h
    · exact declT_inv E ks k hk s s' hi h
    · cases h
theorem declT_inv (E : Env) : ∀ (l : List Dat) (k : LibS → Er LibS) (hk : ∀ s s', Inv s → k s = .ok s' → Inv s' ∧ s'.name = s.name) (s s' : LibS), Inv s → declT E l k s = .ok s' → Inv s' ∧ s'.name = s.name
  | [], k, hk, s, s', hi, h => by rw [declT] at h; cases h
  | x :: t, k, hk, s, s', hi, h => by
    have h1 := declL_inv E t s s' hi
    rw [declT] at h
    cases hc : clauseF E x with
    | no z => rw [hc] at h; cases h
    | ok b =>
      rw [hc] at h
      cases b with
      | true => exact h1 h
      | false => exact hk s s' hi h
end
/-- The parser at work. -/
structure GoS (A B pb : Nat) (E : Env) (f1 f2 f3 : Value) (s : LibS) (w : World) : Prop where
  ps : PS B pb f1 f2 f3 s w
  env : EnvM A E f1 f2 f3 w
  tab : TabW w
  hA : A ≤ B
  h0 : 0 < A
  inv : Inv s
theorem GoS.pv {A B pb : Nat} {E : Env} {f1 f2 f3 : Value} {s : LibS} {w : World} (h : GoS A B pb E f1 f2 f3 s w) : PV A pb E f1 f2 f3 w := by
  obtain ⟨is, es, ev, iv, bv, h1, _⟩ := h.ps
  exact ⟨Nat.le_trans h.hA h1.hs, h.env, (cellO h1.blk).trans rfl, (cellO h1.blk).trans rfl, (Array.getElem?_eq_some_iff.1 h1.blk).1⟩
theorem GoS.to {A B pb : Nat} {E : Env} {f1 f2 f3 : Value} {s s' : LibS} {w w' : World} (h : GoS A B pb E f1 f2 f3 s w) (hb : Below B w w') (hp : PS B pb f1 f2 f3 s' w') (hi : Inv s') : GoS A B pb E f1 f2 f3 s' w' :=
  ⟨hp, h.env.below (hb.mono h.hA), h.tab.below hb (Nat.lt_of_lt_of_le h.h0 h.hA), h.hA, h.h0, hi⟩
theorem GoS.below {A B pb : Nat} {E : Env} {f1 f2 f3 : Value} {s : LibS} {w w' : World} (h : GoS A B pb E f1 f2 f3 s w) (hb : Below w.heap.size w w') : GoS A B pb E f1 f2 f3 s w' :=
  h.to (hb.mono h.ps.hs) (h.ps.below hb) h.inv
set_option maxRecDepth 100000 in
set_option maxHeartbeats 6400000 in
theorem decl_form_no (B pb : Nat) (f1 f2 f3 : Value) (r : Er LibS) (d : Dat) (a : Option Addr) (kn cap : Nat) (w : World) (hB : B ≤ w.heap.size) (hr : r = .no 2) (HF0 : ∀ W, Below w.heap.size w W → Calls Tryz.prog 53 #[.agg #[.int .i64 d.kind, .int .i64 d.n, .string d.name, .int .i64 d.stamp, .int .i64 d.lib, .slice a kn cap]] W fun e w' => Below W.heap.size W w' ∧ e = .panicked (thrownL 2)) :
    Calls Tryz.prog 81 #[.pointer (some ⟨pb, 0, none⟩), .agg #[.int .i64 d.kind, .int .i64 d.n, .string d.name, .int .i64 d.stamp, .int .i64 d.lib, .slice a kn cap]] w (ToldP B pb f1 f2 f3 r w) := by
  have HB : Hid (Below w.heap.size w (w.alloc (.cells #[.int .i64 d.kind, .int .i64 d.n, .string d.name, .int .i64 d.stamp, .int .i64 d.lib, .slice a kn cap] 26))) := (Below.refl _ _).alloc (Nat.le_refl _) _
  have HHB := hidd hB
  clear hB
  have HF := hidd HF0
  have HR := hidd hr
  clear HF0 hr
  go_enter Tryz.func81, Tryz.ntmps81
  go_wp2_with fail
  refine (HF.out _ HB.out).mono ?_
  rintro e w1 ⟨hb1, rfl⟩
  have HB1 : Hid (Below w.heap.size w w1) := HB.out.trans (hb1.mono HB.out.size)
  clear hb1 HF
  go_wp2_with fail
  refine ⟨rfl, HB1.out.bt HHB.out, ?_⟩
  rw [HR.out]
set_option maxRecDepth 100000 in
set_option maxHeartbeats 6400000 in
theorem decl_else (B pb : Nat) (f1 f2 f3 : Value) (r : Er LibS) (d : Dat) (a : Option Addr) (kn cap : Nat) (w : World) (hB : B ≤ w.heap.size) (hr : r = .no 2) (nm : ByteArray) (ra : Option Addr) (rn rc : Nat) (HF0 : ∀ W, Below w.heap.size w W → Calls Tryz.prog 53 #[.agg #[.int .i64 d.kind, .int .i64 d.n, .string d.name, .int .i64 d.stamp, .int .i64 d.lib, .slice a kn cap]] W fun e w' => Below W.heap.size W w' ∧ e = .returned (.tuple #[.string nm, .slice ra rn rc])) (hn0 : ¬ nm = bExport) (hn1 : ¬ nm = bImport) (hn2 : ¬ nm = bBegin) (hn3 : ¬ nm = bInclude) (hn4 : ¬ nm = bCond) :
    Calls Tryz.prog 81 #[.pointer (some ⟨pb, 0, none⟩), .agg #[.int .i64 d.kind, .int .i64 d.n, .string d.name, .int .i64 d.stamp, .int .i64 d.lib, .slice a kn cap]] w (ToldP B pb f1 f2 f3 r w) := by
  have HB : Hid (Below w.heap.size w (w.alloc (.cells #[.int .i64 d.kind, .int .i64 d.n, .string d.name, .int .i64 d.stamp, .int .i64 d.lib, .slice a kn cap] 26))) := (Below.refl _ _).alloc (Nat.le_refl _) _
  have HHB := hidd hB
  clear hB
  have k0 : (nm.toList == bExport.toList) = false := beqS_ne hn0
  unfold bExport at k0
  have m0 : (nm.toList == [101, 120, 112, 111, 114, 116]) = false := by simpa using k0
  have k1 : (nm.toList == bImport.toList) = false := beqS_ne hn1
  unfold bImport at k1
  have m1 : (nm.toList == [105, 109, 112, 111, 114, 116]) = false := by simpa using k1
  have k2 : (nm.toList == bBegin.toList) = false := beqS_ne hn2
  unfold bBegin at k2
  have m2 : (nm.toList == [98, 101, 103, 105, 110]) = false := by simpa using k2
  have k3 : (nm.toList == bInclude.toList) = false := beqS_ne hn3
  unfold bInclude at k3
  have m3 : (nm.toList == [105, 110, 99, 108, 117, 100, 101]) = false := by simpa using k3
  have k4 : (nm.toList == bCond.toList) = false := beqS_ne hn4
  unfold bCond at k4
  have m4 : (nm.toList == [99, 111, 110, 100, 45, 101, 120, 112, 97, 110, 100]) = false := by simpa using k4
  clear hn0 hn1 hn2 hn3 hn4
  have HF := hidd HF0
  have HR := hidd hr
  clear HF0 hr
  go_enter Tryz.func81, Tryz.ntmps81
  go_wp2_with fail
  refine (HF.out _ HB.out).mono ?_
  rintro e w1 ⟨hb1, rfl⟩
  have HB1 : Hid (Below w.heap.size w w1) := HB.out.trans (hb1.mono HB.out.size)
  clear hb1 HF
  go_wp2_with fail
  refine ⟨rfl, HB1.out.bt HHB.out, ?_⟩
  rw [HR.out]
  exact rfl
set_option maxRecDepth 100000 in
set_option maxHeartbeats 6400000 in
theorem decl_export (B pb : Nat) (f1 f2 f3 : Value) (r : Er LibS) (d : Dat) (a : Option Addr) (kn cap : Nat) (w : World) (hB : B ≤ w.heap.size) (nm : ByteArray) (ra : Option Addr) (rn rc : Nat) (HF0 : ∀ W, Below w.heap.size w W → Calls Tryz.prog 53 #[.agg #[.int .i64 d.kind, .int .i64 d.n, .string d.name, .int .i64 d.stamp, .int .i64 d.lib, .slice a kn cap]] W fun e w' => Below W.heap.size W w' ∧ e = .returned (.tuple #[.string nm, .slice ra rn rc])) (hn : nm = bExport) (HE0 : ∀ W, Below w.heap.size w W → Calls Tryz.prog 107 #[.pointer (some ⟨pb, 0, none⟩), .slice ra rn rc] W (ToldP B pb f1 f2 f3 r W)) :
    Calls Tryz.prog 81 #[.pointer (some ⟨pb, 0, none⟩), .agg #[.int .i64 d.kind, .int .i64 d.n, .string d.name, .int .i64 d.stamp, .int .i64 d.lib, .slice a kn cap]] w (ToldP B pb f1 f2 f3 r w) := by
  have HB : Hid (Below w.heap.size w (w.alloc (.cells #[.int .i64 d.kind, .int .i64 d.n, .string d.name, .int .i64 d.stamp, .int .i64 d.lib, .slice a kn cap] 26))) := (Below.refl _ _).alloc (Nat.le_refl _) _
  have HHB := hidd hB
  clear hB
  have ke : (nm.toList == bExport.toList) = true := by rw [hn]; simp
  unfold bExport at ke
  have me : (nm.toList == [101, 120, 112, 111, 114, 116]) = true := by simpa using ke
  clear hn
  have HF := hidd HF0
  have HE := hidd HE0
  clear HF0 HE0
  go_enter Tryz.func81, Tryz.ntmps81
  go_wp2_with fail
  refine (HF.out _ HB.out).mono ?_
  rintro e w1 ⟨hb1, rfl⟩
  have HB1 : Hid (Below w.heap.size w w1) := HB.out.trans (hb1.mono HB.out.size)
  clear hb1 HF
  go_wp2_with fail
  refine (HE.out _ HB1.out).mono ?_
  rintro e wz ⟨hb2, hr⟩
  have HBZ : Hid (BT B w wz) := (HB1.out.bt HHB.out).trans hb2
  clear hb2 HE
  cases r with
  | no x =>
    have hr' : e = .panicked (thrownL x) := hr
    subst hr'
    clear hr
    go_wp2_with fail
    exact ⟨rfl, HBZ.out, rfl⟩
  | ok s =>
    have hr' : e = .returned (.tuple #[]) ∧ PS B pb f1 f2 f3 s wz := hr
    obtain ⟨rfl, hp⟩ := hr'
    have HP := hidd hp
    clear hr hp
    go_wp2_with fail
    go_end0
    exact ⟨HBZ.out, rfl, HP.out⟩
set_option maxRecDepth 100000 in
set_option maxHeartbeats 6400000 in
theorem decl_import (B pb : Nat) (f1 f2 f3 : Value) (r : Er LibS) (d : Dat) (a : Option Addr) (kn cap : Nat) (w : World) (hB : B ≤ w.heap.size) (nm : ByteArray) (ra : Option Addr) (rn rc : Nat) (HF0 : ∀ W, Below w.heap.size w W → Calls Tryz.prog 53 #[.agg #[.int .i64 d.kind, .int .i64 d.n, .string d.name, .int .i64 d.stamp, .int .i64 d.lib, .slice a kn cap]] W fun e w' => Below W.heap.size W w' ∧ e = .returned (.tuple #[.string nm, .slice ra rn rc])) (hn0 : ¬ nm = bExport) (hn : nm = bImport) (HE0 : ∀ W, Below w.heap.size w W → Calls Tryz.prog 108 #[.pointer (some ⟨pb, 0, none⟩), .slice ra rn rc] W (ToldP B pb f1 f2 f3 r W)) :
    Calls Tryz.prog 81 #[.pointer (some ⟨pb, 0, none⟩), .agg #[.int .i64 d.kind, .int .i64 d.n, .string d.name, .int .i64 d.stamp, .int .i64 d.lib, .slice a kn cap]] w (ToldP B pb f1 f2 f3 r w) := by
  have HB : Hid (Below w.heap.size w (w.alloc (.cells #[.int .i64 d.kind, .int .i64 d.n, .string d.name, .int .i64 d.stamp, .int .i64 d.lib, .slice a kn cap] 26))) := (Below.refl _ _).alloc (Nat.le_refl _) _
  have HHB := hidd hB
  clear hB
  have k0 : (nm.toList == bExport.toList) = false := beqS_ne hn0
  unfold bExport at k0
  have m0 : (nm.toList == [101, 120, 112, 111, 114, 116]) = false := by simpa using k0
  have ke : (nm.toList == bImport.toList) = true := by rw [hn]; simp
  unfold bImport at ke
  have me : (nm.toList == [105, 109, 112, 111, 114, 116]) = true := by simpa using ke
  clear hn0 hn
  have HF := hidd HF0
  have HE := hidd HE0
  clear HF0 HE0
  go_enter Tryz.func81, Tryz.ntmps81
  go_wp2_with fail
  refine (HF.out _ HB.out).mono ?_
  rintro e w1 ⟨hb1, rfl⟩
  have HB1 : Hid (Below w.heap.size w w1) := HB.out.trans (hb1.mono HB.out.size)
  clear hb1 HF
  go_wp2_with fail
  refine (HE.out _ HB1.out).mono ?_
  rintro e wz ⟨hb2, hr⟩
  have HBZ : Hid (BT B w wz) := (HB1.out.bt HHB.out).trans hb2
  clear hb2 HE
  cases r with
  | no x =>
    have hr' : e = .panicked (thrownL x) := hr
    subst hr'
    clear hr
    go_wp2_with fail
    exact ⟨rfl, HBZ.out, rfl⟩
  | ok s =>
    have hr' : e = .returned (.tuple #[]) ∧ PS B pb f1 f2 f3 s wz := hr
    obtain ⟨rfl, hp⟩ := hr'
    have HP := hidd hp
    clear hr hp
    go_wp2_with fail
    go_end0
    exact ⟨HBZ.out, rfl, HP.out⟩
set_option maxRecDepth 100000 in
set_option maxHeartbeats 6400000 in
theorem decl_include (B pb : Nat) (f1 f2 f3 : Value) (r : Er LibS) (d : Dat) (a : Option Addr) (kn cap : Nat) (w : World) (hB : B ≤ w.heap.size) (nm : ByteArray) (ra : Option Addr) (rn rc : Nat) (HF0 : ∀ W, Below w.heap.size w W → Calls Tryz.prog 53 #[.agg #[.int .i64 d.kind, .int .i64 d.n, .string d.name, .int .i64 d.stamp, .int .i64 d.lib, .slice a kn cap]] W fun e w' => Below W.heap.size W w' ∧ e = .returned (.tuple #[.string nm, .slice ra rn rc])) (hn0 : ¬ nm = bExport) (hn1 : ¬ nm = bImport) (hn2 : ¬ nm = bBegin) (hn : nm = bInclude) (HE0 : ∀ W, Below w.heap.size w W → Calls Tryz.prog 110 #[.pointer (some ⟨pb, 0, none⟩), .slice ra rn rc] W (ToldP B pb f1 f2 f3 r W)) :
    Calls Tryz.prog 81 #[.pointer (some ⟨pb, 0, none⟩), .agg #[.int .i64 d.kind, .int .i64 d.n, .string d.name, .int .i64 d.stamp, .int .i64 d.lib, .slice a kn cap]] w (ToldP B pb f1 f2 f3 r w) := by
  have HB : Hid (Below w.heap.size w (w.alloc (.cells #[.int .i64 d.kind, .int .i64 d.n, .string d.name, .int .i64 d.stamp, .int .i64 d.lib, .slice a kn cap] 26))) := (Below.refl _ _).alloc (Nat.le_refl _) _
  have HHB := hidd hB
  clear hB
  have k0 : (nm.toList == bExport.toList) = false := beqS_ne hn0
  unfold bExport at k0
  have m0 : (nm.toList == [101, 120, 112, 111, 114, 116]) = false := by simpa using k0
  have k1 : (nm.toList == bImport.toList) = false := beqS_ne hn1
  unfold bImport at k1
  have m1 : (nm.toList == [105, 109, 112, 111, 114, 116]) = false := by simpa using k1
  have k2 : (nm.toList == bBegin.toList) = false := beqS_ne hn2
  unfold bBegin at k2
  have m2 : (nm.toList == [98, 101, 103, 105, 110]) = false := by simpa using k2
  have ke : (nm.toList == bInclude.toList) = true := by rw [hn]; simp
  unfold bInclude at ke
  have me : (nm.toList == [105, 110, 99, 108, 117, 100, 101]) = true := by simpa using ke
  clear hn0 hn1 hn2 hn
  have HF := hidd HF0
  have HE := hidd HE0
  clear HF0 HE0
  go_enter Tryz.func81, Tryz.ntmps81
  go_wp2_with fail
  refine (HF.out _ HB.out).mono ?_
  rintro e w1 ⟨hb1, rfl⟩
  have HB1 : Hid (Below w.heap.size w w1) := HB.out.trans (hb1.mono HB.out.size)
  clear hb1 HF
  go_wp2_with fail
  refine (HE.out _ HB1.out).mono ?_
  rintro e wz ⟨hb2, hr⟩
  have HBZ : Hid (BT B w wz) := (HB1.out.bt HHB.out).trans hb2
  clear hb2 HE
  cases r with
  | no x =>
    have hr' : e = .panicked (thrownL x) := hr
    subst hr'
    clear hr
    go_wp2_with fail
    exact ⟨rfl, HBZ.out, rfl⟩
  | ok s =>
    have hr' : e = .returned (.tuple #[]) ∧ PS B pb f1 f2 f3 s wz := hr
    obtain ⟨rfl, hp⟩ := hr'
    have HP := hidd hp
    clear hr hp
    go_wp2_with fail
    go_end0
    exact ⟨HBZ.out, rfl, HP.out⟩
set_option maxRecDepth 100000 in
set_option maxHeartbeats 6400000 in
theorem decl_begin (B pb : Nat) (f1 f2 f3 : Value) (r : Er LibS) (d : Dat) (a : Option Addr) (kn cap : Nat) (w : World) (hB : B ≤ w.heap.size) (nm : ByteArray) (ra : Option Addr) (rn rc : Nat) (HF0 : ∀ W, Below w.heap.size w W → Calls Tryz.prog 53 #[.agg #[.int .i64 d.kind, .int .i64 d.n, .string d.name, .int .i64 d.stamp, .int .i64 d.lib, .slice a kn cap]] W fun e w' => Below W.heap.size W w' ∧ e = .returned (.tuple #[.string nm, .slice ra rn rc])) (hn0 : ¬ nm = bExport) (hn1 : ¬ nm = bImport) (hn : nm = bBegin) (HC0 : ∀ W, Below w.heap.size w W → Calls Tryz.prog 88 #[.slice ra rn rc] W fun e w' => Below w.heap.size w w' ∧ ∃ v, e = .returned v ∧ Calls Tryz.prog 109 #[.pointer (some ⟨pb, 0, none⟩), v] w' (ToldP B pb f1 f2 f3 r w')) :
    Calls Tryz.prog 81 #[.pointer (some ⟨pb, 0, none⟩), .agg #[.int .i64 d.kind, .int .i64 d.n, .string d.name, .int .i64 d.stamp, .int .i64 d.lib, .slice a kn cap]] w (ToldP B pb f1 f2 f3 r w) := by
  have HB : Hid (Below w.heap.size w (w.alloc (.cells #[.int .i64 d.kind, .int .i64 d.n, .string d.name, .int .i64 d.stamp, .int .i64 d.lib, .slice a kn cap] 26))) := (Below.refl _ _).alloc (Nat.le_refl _) _
  have HHB := hidd hB
  clear hB
  have k0 : (nm.toList == bExport.toList) = false := beqS_ne hn0
  unfold bExport at k0
  have m0 : (nm.toList == [101, 120, 112, 111, 114, 116]) = false := by simpa using k0
  have k1 : (nm.toList == bImport.toList) = false := beqS_ne hn1
  unfold bImport at k1
  have m1 : (nm.toList == [105, 109, 112, 111, 114, 116]) = false := by simpa using k1
  have ke : (nm.toList == bBegin.toList) = true := by rw [hn]; simp
  unfold bBegin at ke
  have me : (nm.toList == [98, 101, 103, 105, 110]) = true := by simpa using ke
  clear hn0 hn1 hn
  have HF := hidd HF0
  have HC := hidd HC0
  clear HF0 HC0
  go_enter Tryz.func81, Tryz.ntmps81
  go_wp2_with fail
  refine (HF.out _ HB.out).mono ?_
  rintro e w1 ⟨hb1, rfl⟩
  have HB1 : Hid (Below w.heap.size w w1) := HB.out.trans (hb1.mono HB.out.size)
  clear hb1 HF
  go_wp2_with fail
  refine (HC.out _ HB1.out).mono ?_
  rintro e w2 ⟨hb2, v, rfl, had⟩
  have HB2 := hidd hb2
  have HA := hidd had
  clear hb2 had HC
  go_wp2_with fail
  refine HA.out.mono ?_
  rintro e wz ⟨hb3, hr⟩
  have HBZ : Hid (BT B w wz) := (HB2.out.bt HHB.out).trans hb3
  clear hb3 HA
  cases r with
  | no x =>
    have hr' : e = .panicked (thrownL x) := hr
    subst hr'
    clear hr
    go_wp2_with fail
    exact ⟨rfl, HBZ.out, rfl⟩
  | ok s =>
    have hr' : e = .returned (.tuple #[]) ∧ PS B pb f1 f2 f3 s wz := hr
    obtain ⟨rfl, hp⟩ := hr'
    have HP := hidd hp
    clear hr hp
    go_wp2_with fail
    go_end0
    exact ⟨HBZ.out, rfl, HP.out⟩
set_option maxRecDepth 100000 in
set_option maxHeartbeats 6400000 in
theorem decl_cond (B pb : Nat) (f1 f2 f3 : Value) (r : Er LibS) (d : Dat) (a : Option Addr) (kn cap : Nat) (w : World) (hB : B ≤ w.heap.size) (nm : ByteArray) (ra : Option Addr) (rn rc : Nat) (HF0 : ∀ W, Below w.heap.size w W → Calls Tryz.prog 53 #[.agg #[.int .i64 d.kind, .int .i64 d.n, .string d.name, .int .i64 d.stamp, .int .i64 d.lib, .slice a kn cap]] W fun e w' => Below W.heap.size W w' ∧ e = .returned (.tuple #[.string nm, .slice ra rn rc])) (hn0 : ¬ nm = bExport) (hn1 : ¬ nm = bImport) (hn2 : ¬ nm = bBegin) (hn3 : ¬ nm = bInclude) (hn : nm = bCond) (HT0 : ∀ W, Below w.heap.size w W → Calls Tryz.prog 111 #[.pointer (some ⟨pb, 0, none⟩), .slice ra rn rc] W fun e w' => Below w.heap.size w w' ∧ ((∃ x, e = .panicked (thrownL x) ∧ r = .no x) ∨ ∃ v, e = .returned v ∧ Calls Tryz.prog 56 #[.pointer (some ⟨pb, 0, none⟩), v] w' (ToldP B pb f1 f2 f3 r w'))) :
    Calls Tryz.prog 81 #[.pointer (some ⟨pb, 0, none⟩), .agg #[.int .i64 d.kind, .int .i64 d.n, .string d.name, .int .i64 d.stamp, .int .i64 d.lib, .slice a kn cap]] w (ToldP B pb f1 f2 f3 r w) := by
  have HB : Hid (Below w.heap.size w (w.alloc (.cells #[.int .i64 d.kind, .int .i64 d.n, .string d.name, .int .i64 d.stamp, .int .i64 d.lib, .slice a kn cap] 26))) := (Below.refl _ _).alloc (Nat.le_refl _) _
  have HHB := hidd hB
  clear hB
  have k0 : (nm.toList == bExport.toList) = false := beqS_ne hn0
  unfold bExport at k0
  have m0 : (nm.toList == [101, 120, 112, 111, 114, 116]) = false := by simpa using k0
  have k1 : (nm.toList == bImport.toList) = false := beqS_ne hn1
  unfold bImport at k1
  have m1 : (nm.toList == [105, 109, 112, 111, 114, 116]) = false := by simpa using k1
  have k2 : (nm.toList == bBegin.toList) = false := beqS_ne hn2
  unfold bBegin at k2
  have m2 : (nm.toList == [98, 101, 103, 105, 110]) = false := by simpa using k2
  have k3 : (nm.toList == bInclude.toList) = false := beqS_ne hn3
  unfold bInclude at k3
  have m3 : (nm.toList == [105, 110, 99, 108, 117, 100, 101]) = false := by simpa using k3
  have ke : (nm.toList == bCond.toList) = true := by rw [hn]; simp
  unfold bCond at ke
  have me : (nm.toList == [99, 111, 110, 100, 45, 101, 120, 112, 97, 110, 100]) = true := by simpa using ke
  clear hn0 hn1 hn2 hn3 hn
  have HF := hidd HF0
  have HT := hidd HT0
  clear HF0 HT0
  go_enter Tryz.func81, Tryz.ntmps81
  go_wp2_with fail
  refine (HF.out _ HB.out).mono ?_
  rintro e w1 ⟨hb1, rfl⟩
  have HB1 : Hid (Below w.heap.size w w1) := HB.out.trans (hb1.mono HB.out.size)
  clear hb1 HF
  go_wp2_with fail
  refine (HT.out _ HB1.out).mono ?_
  rintro e w2 ⟨hb2, hx⟩
  have HB2 := hidd hb2
  clear hb2 HT
  rcases hx with ⟨x, rfl, rfl⟩ | ⟨v, rfl, had⟩
  · go_wp2_with fail
    exact ⟨rfl, HB2.out.bt HHB.out, rfl⟩
  have HA := hidd had
  clear had
  go_wp2_with fail
  refine HA.out.mono ?_
  rintro e wz ⟨hb3, hr⟩
  have HBZ : Hid (BT B w wz) := (HB2.out.bt HHB.out).trans hb3
  clear hb3 HA
  cases r with
  | no x =>
    have hr' : e = .panicked (thrownL x) := hr
    subst hr'
    clear hr
    go_wp2_with fail
    exact ⟨rfl, HBZ.out, rfl⟩
  | ok s =>
    have hr' : e = .returned (.tuple #[]) ∧ PS B pb f1 f2 f3 s wz := hr
    obtain ⟨rfl, hp⟩ := hr'
    have HP := hidd hp
    clear hr hp
    go_wp2_with fail
    go_end0
    exact ⟨HBZ.out, rfl, HP.out⟩
end Go.Proofs.YtonafbennobgdaaGreatDoor
