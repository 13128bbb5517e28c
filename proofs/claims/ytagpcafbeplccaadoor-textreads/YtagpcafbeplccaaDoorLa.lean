/- A reader in memory; its small methods. -/
import Derived.Test.YtagpcafbeplccaaDoorDe
import Derived.Test.YtagpcafbeplccaaDoorPlb
import Derived.WalkSmall
import Derived.Deep.LoopGhost
import Derived.Deep.QuietTactic
import Derived.BigQuiet
namespace Go.Proofs.YtagpcafbeplccaaDoor
set_option linter.unusedVariables false
set_option linter.unusedSimpArgs false
open Go.RowKit

/-- A reader that stands at 'at', behind n nodes. -/
structure Rdr (rb : Nat) (s : ByteArray) (i n : Nat) (w : World) : Prop where
  lt : rb < w.heap.size
  c0 : w.cell? ⟨rb, 0, none⟩ = some (.string s)
  c1 : w.cell? ⟨rb, 1, none⟩ = some (.int .i64 (i : Int))
  c2 : w.cell? ⟨rb, 2, none⟩ = some (.int .i64 (n : Int))
  z1 : w.frozen? ⟨rb, 1, none⟩ = false
  z2 : w.frozen? ⟨rb, 2, none⟩ = false

theorem Rdr.below {rb : Nat} {s : ByteArray} {i n : Nat} {w w' : World} (h : Rdr rb s i n w) (hb : Below w.heap.size w w') : Rdr rb s i n w' :=
  ⟨Nat.lt_of_lt_of_le h.lt hb.size, (hb.cell (p := ⟨rb, 0, none⟩) h.lt).trans h.c0, (hb.cell (p := ⟨rb, 1, none⟩) h.lt).trans h.c1, (hb.cell (p := ⟨rb, 2, none⟩) h.lt).trans h.c2,
    (hb.frozen (p := ⟨rb, 1, none⟩) h.lt).trans h.z1, (hb.frozen (p := ⟨rb, 2, none⟩) h.lt).trans h.z2⟩
theorem Rdr.alloc {rb : Nat} {s : ByteArray} {i n : Nat} {w : World} (h : Rdr rb s i n w) (o : Obj) : Rdr rb s i n (w.alloc o) := h.below ((Below.refl _ _).alloc (Nat.le_refl _) _)
theorem Rdr.drew {rb : Nat} {s : ByteArray} {i n : Nat} {w : World} (h : Rdr rb s i n w) : Rdr rb s i n w.drew := ⟨h.lt, h.c0, h.c1, h.c2, h.z1, h.z2⟩

theorem Rdr.move {rb : Nat} {s : ByteArray} {i n : Nat} {w : World} (h : Rdr rb s i n w) (j : Nat) : Rdr rb s j n (w.setCell ⟨rb, 1, none⟩ (.int .i64 (j : Int))) := by
  refine ⟨by simp [World.setCell]; exact h.lt, ?_, World.cell?_setCell_same _ _ _ h.c1, ?_, ?_, ?_⟩
  · rw [World.cell?_setCell_other]
    · exact h.c0
    · simp
  · rw [World.cell?_setCell_other]
    · exact h.c2
    · simp
  · rw [World.frozen?_setCell]; exact h.z1
  · rw [World.frozen?_setCell]; exact h.z2

theorem Rdr.move' {rb : Nat} {s : ByteArray} {i n : Nat} {w : World} (h : Rdr rb s i n w) (j : Nat) (v : Int) (hv : v = (j : Int)) : Rdr rb s j n (w.setCell ⟨rb, 1, none⟩ (.int .i64 v)) := by
  rw [hv]; exact h.move j

theorem Rdr.tick {rb : Nat} {s : ByteArray} {i n : Nat} {w : World} (h : Rdr rb s i n w) (m : Nat) : Rdr rb s i m (w.setCell ⟨rb, 2, none⟩ (.int .i64 (m : Int))) := by
  refine ⟨by simp [World.setCell]; exact h.lt, ?_, ?_, World.cell?_setCell_same _ _ _ h.c2, ?_, ?_⟩
  · rw [World.cell?_setCell_other]
    · exact h.c0
    · simp
  · rw [World.cell?_setCell_other]
    · exact h.c1
    · simp
  · rw [World.frozen?_setCell]; exact h.z1
  · rw [World.frozen?_setCell]; exact h.z2

set_option maxHeartbeats 800000 in
theorem ended_any (rb : Nat) (s : ByteArray) (i n : Nat) (w : World) (h : Rdr rb s i n w) :
    Calls Tryd.prog 37 #[.pointer (some ⟨rb, 0, none⟩)] w fun e w' => e = .returned (.bool ((i : Int) == (s.size : Int))) ∧ Below w.heap.size w w' := by
  have c0 := h.c0
  have c1 := h.c1
  clear h
  go_enter Tryd.func37, Tryd.ntmps37
  go_wp2_with fail
  go_quiet (fail)
  go_wp2_with fail
  go_ret
  refine ⟨rfl, ?_⟩
  exact below_drewN (Below.refl _ _) _

/-- What is thrown. -/
def thrown (x : Int × Int) : List PanicEntry := [{ v := .iface 69 (.agg #[.int .i64 x.1, .int .i64 x.2]), recovered := false }]

set_option maxHeartbeats 800000 in
theorem fault_any (rb : Nat) (s : ByteArray) (i n : Nat) (e : Int) (w : World) (h : Rdr rb s i n w) :
    Calls Tryd.prog 55 #[.pointer (some ⟨rb, 0, none⟩), .int .i64 e] w fun r w' => r = .returned (.agg #[.int .i64 e, .int .i64 (i : Int)]) ∧ Below w.heap.size w w' := by
  have c1 := h.c1
  have l1 := h.lt
  clear h
  go_enter Tryd.func55, Tryd.ntmps55
  go_wp2_with fail
  refine bodyPost_ret (v := .agg #[.int .i64 e, .int .i64 (i : Int)]) (by simp [results, Tryd.results55, go_sem]) rfl ⟨rfl, ?_⟩
  exact (Below.refl _ _).alloc (Nat.le_refl _) _

set_option maxRecDepth 100000 in
set_option maxHeartbeats 800000 in
theorem count_much (rb : Nat) (s : ByteArray) (i n : Nat) (dp : Int) (w : World) (h : Rdr rb s i n w) (hn : n = 2000) :
    Calls Tryd.prog 54 #[.pointer (some ⟨rb, 0, none⟩), .int .i64 dp] w fun e w' => e = .panicked (thrown (4, (i : Int))) ∧ Keep rb w w' := by
  subst hn
  have c1 := h.c1
  have c2 := h.c2
  have z2 := h.z2
  have HR : Hid (Rdr rb s i 2000 w) := h
  clear h
  go_enter Tryd.func54, Tryd.ntmps54
  go_wp2_with fail
  refine (fault_any rb s i (2000 + 1) 4 _ (HR.out.tick (2000 + 1))).mono ?_
  rintro e w1 ⟨rfl, hb⟩
  have hk : Keep rb w w1 := ((Keep.refl _ _).setCell _ rfl _).below hb
  clear hb c1 c2 z2
  go_wp2_with fail
  exact ⟨rfl, rfl, hk⟩

set_option maxRecDepth 100000 in
set_option maxHeartbeats 800000 in
theorem count_deep (rb : Nat) (s : ByteArray) (i n : Nat) (w : World) (h : Rdr rb s i n w) (hn : n ≤ 1999) :
    Calls Tryd.prog 54 #[.pointer (some ⟨rb, 0, none⟩), .int .i64 41] w fun e w' => e = .panicked (thrown (4, (i : Int))) ∧ Keep rb w w' := by
  have c1 := h.c1
  have c2 := h.c2
  have z2 := h.z2
  have HR : Hid (Rdr rb s i n w) := h
  clear h
  go_enter Tryd.func54, Tryd.ntmps54
  go_wp2_with fail
  refine (fault_any rb s i (n + 1) 4 _ (HR.out.tick (n + 1))).mono ?_
  rintro e w1 ⟨rfl, hb⟩
  have hk : Keep rb w w1 := ((Keep.refl _ _).setCell _ rfl _).below hb
  clear hb c1 c2 z2
  go_wp2_with fail
  exact ⟨rfl, rfl, hk⟩

set_option maxRecDepth 100000 in
set_option maxHeartbeats 800000 in
theorem count_ok (rb : Nat) (s : ByteArray) (i n : Nat) (dp : Int) (w : World) (h : Rdr rb s i n w) (hn : n ≤ 1999) (hd : dp ≤ 40) :
    Calls Tryd.prog 54 #[.pointer (some ⟨rb, 0, none⟩), .int .i64 dp] w fun e w' => e = .returned (.tuple #[]) ∧ Keep rb w w' ∧ Rdr rb s i (n + 1) w' := by
  have c1 := h.c1
  have c2 := h.c2
  have z2 := h.z2
  have HR : Hid (Rdr rb s i n w) := h
  clear h
  go_enter Tryd.func54, Tryd.ntmps54
  go_wp2_with fail
  go_end0
  exact ⟨rfl, (Keep.refl _ _).setCell _ rfl _, HR.out.tick (n + 1)⟩

theorem Keep.drewN {c : Nat} {a b : World} (h : Keep c a b) (k : Nat) : Keep c a (b.drewN k) := h.below (below_drewN (Below.refl _ _) k)
theorem Rdr.drewN {rb : Nat} {s : ByteArray} {i n : Nat} {w : World} (h : Rdr rb s i n w) (k : Nat) : Rdr rb s i n (w.drewN k) := h.below (below_drewN (Below.refl _ _) k)

theorem drop_extract (s : ByteArray) (i : Nat) : (s.extract i s.size).data.toList = s.data.toList.drop i := by
  rw [ByteArray.data_extract]
  simp
  rw [List.take_of_length_le (by simp)]

set_option maxRecDepth 100000 in
set_option maxHeartbeats 1600000 in
theorem skipComment_any (rb : Nat) (s : ByteArray) (i n : Nat) (w : World) (h : Rdr rb s i n w) (hi : i < s.size) (hs : s.size ≤ 6000) :
    Calls Tryd.prog 53 #[.pointer (some ⟨rb, 0, none⟩)] w fun e w' => e = .returned (.tuple #[]) ∧ Keep rb w w' ∧ Rdr rb s (i + lineL (s.data.toList.drop i)) n w' := by
  have c0 := h.c0
  have c1 := h.c1
  have z1 := h.z1
  have HR : Hid (Rdr rb s i n w) := h
  clear h
  have hlen : (s.data.toList.drop i).length = s.size - i := by rw [List.length_drop, Array.length_toList]; rfl
  obtain ⟨x, HX⟩ : ∃ x, Hid (Lib.indexByte (s.data.toList.drop i) 10 = x) := ⟨_, rfl⟩
  have hl := line_index (s.data.toList.drop i)
  rw [HX.out, hlen] at hl
  have hle := line_le (s.data.toList.drop i)
  rw [hlen] at hle
  have IX : Hid (∀ w, Calls Tryd.prog 60 #[.string (s.extract i s.size), .int .u8 10] w fun e w' => e = .returned (.int .i64 x) ∧ w' = w) := fun w => by
    have h := Tryd.strings_IndexByte (s.extract i s.size) 10 w
    rw [drop_extract, show (10 : Int).toNat.toUInt8 = 10 from rfl, HX.out] at h
    exact h
  clear hlen HX
  generalize lineL (s.data.toList.drop i) = m at hl hle ⊢
  obtain ⟨h1, h2, h3⟩ := hl
  by_cases hx : x < 0
  · have hm : m = s.size - i := h1 (by omega)
    subst hm
    have HH : Hid (x < 0) := hx
    clear h1 h2 h3
    go_enter Tryd.func53, Tryd.ntmps53
    go_wp2_with fail
    go_quiet ((go_at_call 60; exact Calls.quiet_of_same (IX.out _)))
    go_wp2_with fail
    go_quiet (fail)
    go_wp2_with fail
    go_end0
    refine ⟨rfl, ?_, ?_⟩
    · exact ((Keep.refl _ _).drewN _).setCell _ rfl _
    · exact (HR.out.drewN _).move' _ _ (by omega)
  · have hm : x = (m : Int) := h2 (by omega)
    subst hm
    clear h1 h2 h3
    go_enter Tryd.func53, Tryd.ntmps53
    go_wp2_with fail
    go_quiet ((go_at_call 60; exact Calls.quiet_of_same (IX.out _)))
    go_wp2_with fail
    go_end0
    refine ⟨rfl, ?_, ?_⟩
    · exact ((Keep.refl _ _).drewN _).setCell _ rfl _
    · exact (HR.out.drewN _).move' _ _ (by omega)

theorem at_of {s : ByteArray} {i : Nat} (h : i < s.size) : s.data.toList[i]? = some s[i] := by
  have h' : i < s.data.toList.length := by rw [Array.length_toList]; exact h
  rw [List.getElem?_eq_getElem h']
  rfl

theorem blank_of (c : UInt8) : isBlank c = ((((c.toNat : Int) == 32) || ((c.toNat : Int) == 9)) || ((c.toNat : Int) == 10)) := by
  have h : ∀ (k : UInt8), decide (c = k) = ((c.toNat : Int) == (k.toNat : Int)) := by
    intro k
    by_cases e : c = k
    · subst e; simp
    · have : ¬ c.toNat = k.toNat := fun h => e (UInt8.toNat_inj.1 h)
      simp [e]
      omega
  unfold isBlank
  rw [h 32, h 9, h 10]
  rfl

end Go.Proofs.YtagpcafbeplccaaDoor
