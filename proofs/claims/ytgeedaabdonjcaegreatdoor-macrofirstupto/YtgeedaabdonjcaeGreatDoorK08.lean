/- Package rule set: words; maps from texts to numbers. Package rule set: how much a datum is; words that stand for themselves. Package rule set: words that stand for themselves. -/
import Derived.Maps.OwnOps
import Derived.Maps.OwnSet
import Derived.StringKeys
import Derived.Test.YtgeedaabdonjcaeGreatDoorK01
import Derived.Test.YtgeedaabdonjcaeGreatDoorK05
import Derived.Test.YtgeedaabdonjcaeGreatDoorK06
import Derived.Test.YtgeedaabdonjcaeGreatDoorK07
namespace Go.Proofs.YtgeedaabdonjcaeGreatDoor
section
set_option linter.unusedVariables false
set_option linter.unusedSimpArgs false
open Go.RowKit Go.Maps Go.WideMaps

theorem ba_eq {a b : ByteArray} (h : a.data.toList = b.data.toList) : a = b := by
  cases a; cases b; simpa using h
theorem beqS_true {a b : ByteArray} (h : (a.toList == b.toList) = true) : a = b := by
  rw [ByteArray.toList_eq, ByteArray.toList_eq] at h
  exact ba_eq (by simpa using h)
theorem beqS_ne {a b : ByteArray} (h : ¬ a = b) : (a.toList == b.toList) = false := by
  cases e : (a.toList == b.toList) with
  | false => rfl
  | true => exact absurd (beqS_true e) h
theorem ne_dots {a : ByteArray} (h : ¬ a = dotsS) : (a.toList == [46, 46, 46]) = false := by
  have := beqS_ne h
  unfold dotsS at this
  simpa [ByteArray.toList_eq] using this
theorem ne_any {a : ByteArray} (h : ¬ a = anyS) : (a.toList == [95]) = false := by
  have := beqS_ne h
  unfold anyS at this
  simpa [ByteArray.toList_eq] using this

set_option maxHeartbeats 400000 in
theorem isDots_any (d : Dat) (a : Option Addr) (cap : Nat) (w : World) :
    Calls Tryz.prog 61 #[dv d a cap] w fun e w' => e = .returned (.bool (isDots d)) ∧ Below w.heap.size w w' := by
  obtain ⟨k, n, nm, st, lb, ks⟩ := d
  unfold dv isDots
  simp only
  by_cases h3 : k = 3
  · subst h3
    by_cases hn : nm = dotsS
    · subst hn
      unfold dotsS
      go_enter Tryz.func61, Tryz.ntmps61
      go_wp2_with fail
      go_ret
      exact ⟨by simp, (Below.refl _ _).alloc (Nat.le_refl _) _⟩
    · have hn' := ne_dots hn
      go_enter Tryz.func61, Tryz.ntmps61
      go_wp2_with fail
      go_ret
      exact ⟨by simp [hn, hn'], (Below.refl _ _).alloc (Nat.le_refl _) _⟩
  · have h3' : (k == 3) = false := by simpa using h3
    go_enter Tryz.func61, Tryz.ntmps61
    go_wp2_with fail
    go_ret
    exact ⟨by simp [h3], (Below.refl _ _).alloc (Nat.le_refl _) _⟩

theorem headDots_drop (l : List Dat) (i : Nat) : headDots (l.drop i) = match l[i]? with | some d => isDots d | none => false := by
  cases h : l[i]? with
  | none => rw [List.drop_eq_nil_of_le (List.getElem?_eq_none_iff.1 h)]; rfl
  | some d =>
    obtain ⟨hi, e⟩ := List.getElem?_eq_some_iff.1 h
    rw [List.drop_eq_getElem_cons hi, e]
    rfl

set_option maxHeartbeats 400000 in
theorem dotsBehind_any (B g : Nat) (l : List Dat) (a : Option Addr) (cap i : Nat) (w : World) (hl : Lies B w g a l) (hi : i < l.length) :
    Calls Tryz.prog 84 #[.slice a l.length cap, .int .i64 (i : Int)] w fun e w' => e = .returned (.bool (headDots (l.drop (i + 1)))) ∧ Below w.heap.size w w' := by
  have hlen := hl.len
  rw [headDots_drop]
  have HL : Hid (Lies B w g a l) := hl
  clear hl
  by_cases h1 : i + 1 < l.length
  · obtain ⟨d, hd⟩ : ∃ d, l[i + 1]? = some d := ⟨l[i + 1], List.getElem?_eq_getElem h1⟩
    rw [hd]
    have hne : l ≠ [] := by intro e; rw [e] at hi; simp at hi
    obtain ⟨g', b, o, hg, ha, hbB, hall⟩ := HL.out.at hne
    subst ha
    obtain ⟨a', cap', k0, k1, k2, k3, k4, k5, hkn, hkk⟩ := hall (i + 1) d hd
    have h1' : (i : Int) + 1 < (l.length : Int) := by omega
    clear hd hall hkk hg hkn hne
    go_enter Tryz.func84, Tryz.ntmps84
    go_wp2_with fail
    refine (isDots_any d a' cap' _).mono ?_
    rintro e w1 ⟨rfl, hb⟩
    go_wp2_with fail
    go_ret
    exact ⟨rfl, hb⟩
  · have h2 : l[i + 1]? = none := List.getElem?_eq_none_iff.2 (by omega)
    rw [h2]
    have h1' : decide ((i : Int) + 1 < (l.length : Int)) = false := by simp; omega
    clear h2
    go_enter Tryz.func84, Tryz.ntmps84
    go_wp2_with fail
    go_ret
    exact ⟨by simp, Below.refl _ _⟩

theorem lawS : Keyed Tryz.prog 9 := string_keyed Tryz.underlying9
theorem zeroI (w : World) : (zeroValue 3).run Tryz.prog w = .ok (.int .i64 0) w := by kernel_rfl

/-- Block b is a map of at most n entries, from texts to numbers: f. -/
def MapN (b n : Nat) (f : ByteArray → Nat) (w : World) : Prop :=
  ∃ D : DataW Unit, w.ownsMap Tryz.prog 9 (plainElem Tryz.prog 3) b n D ∧ Maps.IsMap D ∧
    ∀ s : ByteArray, D.atKey (.string s.data.toList) (.lit (.int .i64 0)) = .lit (.int .i64 ((f s : Nat) : Int))

theorem MapN.made (w : World) : MapN w.heap.size 0 (fun _ => 0) (w.alloc (.map #[] 0)) :=
  ⟨.map [], World.ownsMap_made _ _ _ _, Maps.isMap_empty, fun s => rfl⟩
theorem MapN.lt {b n : Nat} {f : ByteArray → Nat} {w : World} (h : MapN b n f w) : b < w.heap.size := by
  obtain ⟨D, h, _⟩ := h
  exact h.lt
theorem MapN.kept {b n : Nat} {f : ByteArray → Nat} {w w' : World} (h : MapN b n f w) (hw : w'.heap[b]? = w.heap[b]?) : MapN b n f w' := by
  obtain ⟨D, ⟨es, clock, hb, F, hs, hD⟩, h2, h3⟩ := h
  exact ⟨D, ⟨es, clock, hw.trans hb, F, hs, hD⟩, h2, h3⟩
theorem MapN.below {b n : Nat} {f : ByteArray → Nat} {w w' : World} (h : MapN b n f w) (hw : Below w.heap.size w w') : MapN b n f w' := h.kept (hw.block b h.lt)
theorem MapN.congr {b n : Nat} {f g : ByteArray → Nat} {w : World} (h : MapN b n f w) (e : ∀ s, g s = f s) : MapN b n g w := by
  obtain rfl : g = f := funext e
  exact h
theorem MapN.mono {b n n' : Nat} {f : ByteArray → Nat} {w : World} (h : MapN b n f w) (hn : n ≤ n') : MapN b n' f w := by
  obtain ⟨D, h1, h2⟩ := h
  exact ⟨D, h1.mono hn, h2⟩
/-- 'm[k]'. -/
theorem MapN.run {b n : Nat} {f : ByteArray → Nat} {w : World} (h : MapN b n f w) {t : TypeId} (ht : Tryz.prog.underlying t = some (.map 9 3)) (s : ByteArray) (hs : s.size ≤ maxLen) :
    (Instr.lookup t (.map (some b)) (.string s) false).run Tryz.prog w = .ok (.int .i64 ((f s : Nat) : Int)) w := by
  obtain ⟨D, h1, h2, h3⟩ := h
  obtain ⟨c, hrun, hat, _⟩ := h1.lookup_int lawS ht Tryz.underlying3 (zeroI w) (keyOf_string_mk Tryz.underlying9 hs)
  rw [h3 s] at hat
  have hc : ((f s : Nat) : Int) = c := by simpa using hat
  rw [hc]
  exact hrun
/-- 'm[k] = i'. -/
theorem wpList_putN {ops : Array Oper} {rest : List Oper} {o : Oper} {a : Act} {Q : Exit → Act → World → Prop} {w : World} {b n : Nat} {f : ByteArray → Nat} (hg : o.guard = none) (m x v : Operand) (t : TypeId) (hop : o.op = Op.mapUpdate t m x v) (ht : Tryz.prog.underlying t = some (.map 9 3))
    (hm : a.eval m = .map (some b)) (h : MapN b n f w) (hn : n < maxLen) (s : ByteArray) (hx : a.eval x = .string s) (hs : s.size ≤ maxLen) (i : Nat) (hv : a.eval v = .int .i64 (i : Int)) (hi : i ≤ 9223372036854775807)
    (hK : ∀ w', MapN b (n + 1) (putV f s i) w' → w.grownBy w' (some b) → wpList Tryz.prog ops Q rest (a.put o.dst undef) w') : wpList Tryz.prog ops Q (o :: rest) a w := by
  obtain ⟨D, h1, h2, h3⟩ := h
  have hkey := keyOf_string_mk (P := Tryz.prog) Tryz.underlying9 hs
  refine wpList_mapUpdate_own w hg m x v t hop 9 3 lawS ht _ b n D hm h1 hn _ _ _ hx hv hkey _ [] (plainElem_int Tryz.underlying3 (WalkArith.wf_i64 (by omega))) ?_
  intro w' hown hgr
  refine hK w' ⟨_, hown, h2.put _ _, fun t => ?_⟩ hgr
  have hkl : WideAt.IsKeyLit (.string s.data.toList) := lawS.key hkey
  unfold putV
  by_cases e : t = s
  · subst e
    rw [atKey_put_same h2 hkl]
    simp
  · have hne : (Lit.string t.data.toList) ≠ .string s.data.toList := fun h => e (ba_eq (by simpa using h))
    rw [atKey_put_other hne, h3 t]
    simp [e]

/-- Block b tells of each of those texts that it is one of them. -/
def LitM (b : Nat) (lits : List ByteArray) (w : World) : Prop := ∃ n f, MapN b n f w ∧ n ≤ 20 ∧ (∀ s, f s ≤ 20) ∧ ∀ s, (decide (0 < f s)) = inB lits s
theorem LitM.below {b : Nat} {lits : List ByteArray} {w w' : World} (h : LitM b lits w) (hw : Below w.heap.size w w') : LitM b lits w' := by
  obtain ⟨n, f, h1, h2⟩ := h
  exact ⟨n, f, h1.below hw, h2⟩
theorem LitM.lt {b : Nat} {lits : List ByteArray} {w : World} (h : LitM b lits w) : b < w.heap.size := by
  obtain ⟨n, f, h1, h2⟩ := h
  exact h1.lt
theorem LitM.kept {b : Nat} {lits : List ByteArray} {w w' : World} (h : LitM b lits w) (hw : w'.heap[b]? = w.heap[b]?) : LitM b lits w' := by
  obtain ⟨n, f, h1, h2⟩ := h
  exact ⟨n, f, h1.kept hw, h2⟩

set_option maxHeartbeats 400000 in
theorem has_any (b : Nat) (lits : List ByteArray) (s : ByteArray) (w : World) (h : LitM b lits w) (hs : s.size ≤ maxLen) :
    Calls Tryz.prog 110 #[.map (some b), .string s] w fun e w' => e = .returned (.bool (inB lits s)) ∧ w' = w := by
  obtain ⟨n, f, h1, h2, h3, h4⟩ := h
  have hr := h1.run (t := 66) Tryz.underlying66 s hs
  rw [← h4 s]
  generalize f s = c at hr ⊢
  clear h1 h2 h3 h4
  go_enter Tryz.func110, Tryz.ntmps110
  go_wp2_with fail
  go_ret
  exact ⟨retB (by simp), rfl⟩

set_option maxHeartbeats 800000 in
theorem isVariable_any (b : Nat) (lits : List ByteArray) (d : Dat) (a : Option Addr) (cap : Nat) (w : World) (h : LitM b lits w) (hs : d.name.size ≤ maxLen) :
    Calls Tryz.prog 111 #[.map (some b), dv d a cap] w fun e w' => e = .returned (.bool (varK lits d.kind d.name)) ∧ Below w.heap.size w w' := by
  obtain ⟨k, n, nm, st, lb, ks⟩ := d
  unfold dv varK
  simp only at hs ⊢
  have HA : Hid (LitM b lits w ∧ nm.size ≤ maxLen) := ⟨h, hs⟩
  clear h hs
  by_cases h3 : k = 3
  · subst h3
    by_cases hn : nm = dotsS
    · subst hn
      unfold dotsS
      go_enter Tryz.func111, Tryz.ntmps111
      go_wp2_with fail
      go_ret
      exact ⟨by simp, (Below.refl _ _).alloc (Nat.le_refl _) _⟩
    · have hn' := ne_dots hn
      by_cases ha : nm = anyS
      · subst ha
        unfold anyS
        go_enter Tryz.func111, Tryz.ntmps111
        go_wp2_with fail
        go_ret
        exact ⟨by simp, (Below.refl _ _).alloc (Nat.le_refl _) _⟩
      · have ha' := ne_any ha
        go_enter Tryz.func111, Tryz.ntmps111
        go_wp2_with fail
        refine (has_any b lits nm _ (HA.out.1.below ((Below.refl _ _).alloc (Nat.le_refl _) _)) HA.out.2).mono ?_
        rintro e w' ⟨rfl, rfl⟩
        go_wp2_with fail
        go_ret
        exact ⟨by simp [hn, ha], (Below.refl _ _).alloc (Nat.le_refl _) _⟩
  · have h3' : (k == 3) = false := by simpa using h3
    go_enter Tryz.func111, Tryz.ntmps111
    go_wp2_with fail
    go_ret
    exact ⟨by simp [h3], (Below.refl _ _).alloc (Nat.le_refl _) _⟩
end
section
set_option linter.unusedVariables false
set_option linter.unusedSimpArgs false
open Go.RowKit Go.Maps Go.WideMaps

theorem Ctr.at {cb n : Nat} {w : World} (h : Ctr cb n w) (m : Nat) : Ctr cb m (w.setCell ⟨cb, 0, none⟩ (.int .i64 ((m : Nat) : Int))) := h.set m

set_option maxRecDepth 100000 in
set_option maxHeartbeats 400000 in
theorem takes_ok (cb n dp : Nat) (w : World) (hn : n ≤ 1999) (hd : dp ≤ 40) (hc : Ctr cb n w) :
    Calls Tryz.prog 82 #[.pointer (some ⟨cb, 0, none⟩), .int .i64 (dp : Int)] w fun e w' => e = .returned (.bool true) ∧ w' = w.setCell ⟨cb, 0, none⟩ (.int .i64 ((n + 1 : Nat) : Int)) := by
  have c1 := hc.cell
  have f1 := hc.thaw
  have l1 := hc.lt
  clear hc
  go_enter Tryz.func82, Tryz.ntmps82
  go_wp2_with fail
  go_ret
  exact ⟨retB (by simp; omega), rfl⟩

set_option maxRecDepth 100000 in
set_option maxHeartbeats 400000 in
theorem takes_no (cb n dp : Nat) (w : World) (hn : n ≤ 2000) (hd : dp ≤ 41) (hx : n = 2000 ∨ dp = 41) (hc : Ctr cb n w) :
    Calls Tryz.prog 82 #[.pointer (some ⟨cb, 0, none⟩), .int .i64 (dp : Int)] w fun e w' => e = .returned (.bool false) ∧ w' = w.setCell ⟨cb, 0, none⟩ (.int .i64 ((n + 1 : Nat) : Int)) := by
  have c1 := hc.cell
  have f1 := hc.thaw
  have l1 := hc.lt
  clear hc
  by_cases h : n = 2000
  · subst h
    go_enter Tryz.func82, Tryz.ntmps82
    go_wp2_with fail
    go_ret
    exact ⟨rfl, rfl⟩
  · have hd : dp = 41 := by omega
    subst hd
    have hn' : (n : Int) + 1 ≤ 2000 := by omega
    clear hx
    go_enter Tryz.func82, Tryz.ntmps82
    go_wp2_with fail
    go_ret
    exact ⟨rfl, rfl⟩

/-- Is a datum so deep, behind n nodes, not too much? -/
def holdsB (n dp : Nat) (d : Dat) : Bool := decide (n + sizeD d ≤ 2000) && decide (dp + deepD d ≤ 41)
def holdsL (n dp : Nat) (l : List Dat) : Bool := decide (n + sizeL l ≤ 2000) && decide (dp + deepL l ≤ 41)

theorem take_at {ks : List Dat} {j : Nat} {kid : Dat} (h : ks[j]? = some kid) : ks.take (j + 1) = ks.take j ++ [kid] := by
  rw [List.take_add_one, h]
  rfl
theorem sizeL_take {ks : List Dat} {j : Nat} {kid : Dat} (h : ks[j]? = some kid) : sizeL (ks.take (j + 1)) = sizeL (ks.take j) + sizeD kid := by
  rw [take_at h, sizeL_append]
  simp [sizeL]
theorem deepL_take {ks : List Dat} {j : Nat} {kid : Dat} (h : ks[j]? = some kid) : deepL (ks.take (j + 1)) = max (deepL (ks.take j)) (deepD kid) := by
  rw [take_at h, deepL_append]
  simp [deepL]
theorem sizeL_part (ks : List Dat) (j : Nat) : sizeL (ks.take j) ≤ sizeL ks := by
  have h := sizeL_append (ks.take j) (ks.drop j)
  rw [List.take_append_drop] at h
  omega
theorem deepL_part (ks : List Dat) (j : Nat) : deepL (ks.take j) ≤ deepL ks := by
  have h := deepL_append (ks.take j) (ks.drop j)
  rw [List.take_append_drop] at h
  omega

/-- What is promised of holds. -/
def ToldB (cb : Nat) (ok : Bool) (n : Nat) (w : World) (e : Ending) (w' : World) : Prop :=
  e = .returned (.bool ok) ∧ Keep cb w w' ∧ cb < w'.heap.size ∧ (ok = true → Ctr cb n w')

/-- A node that is counted, its box made ahead. -/
theorem counted {cb n : Nat} {w w1 : World} {A : Array Value} {T : TypeId} (hc : Ctr cb n w) (h : w1 = (w.alloc (.cells A T)).setCell ⟨cb, 0, none⟩ (.int .i64 ((n + 1 : Nat) : Int))) :
    Keep cb w w1 ∧ Ctr cb (n + 1) w1 ∧ w1.heap.size = w.heap.size + 1 ∧ ∀ j, w1.cell? ⟨w.heap.size, j, none⟩ = A[j]? := by
  subst h
  refine ⟨((Keep.refl _ _).alloc _).setCell _ rfl _, (hc.alloc _).at (n + 1), by simp [World.setCell], fun j => ?_⟩
  have hl := hc.lt
  rw [World.cell?_setCell_other]
  · exact World.cell?_alloc_mark w A T (0, 0) j
  · intro e
    cases e
    omega

set_option maxRecDepth 100000 in
set_option maxHeartbeats 1600000 in
theorem holds_step (B g : Nat) (d : Dat) (a : Option Addr) (cap cb n dp : Nat) (w : World) (hl : Lies B w (g + 1) a d.kids) (hn : n ≤ 2000) (hd : dp ≤ 41) (hB : B ≤ cb) (hc : Ctr cb n w)
    (ih : ∀ (d' : Dat), d' ∈ d.kids → ∀ (a : Option Addr) (cap n : Nat) (w : World), Lies B w g a d'.kids → n ≤ 2000 → dp + 1 ≤ 41 → Ctr cb n w → Calls Tryz.prog 54 #[.pointer (some ⟨cb, 0, none⟩), dv d' a cap, .int .i64 ((dp + 1 : Nat) : Int)] w (ToldB cb (holdsB n (dp + 1) d') (n + sizeD d') w)) :
    Calls Tryz.prog 54 #[.pointer (some ⟨cb, 0, none⟩), dv d a cap, .int .i64 (dp : Int)] w (ToldB cb (holdsB n dp d) (n + sizeD d) w) := by
  have hsp := sizeD_pos d
  have hdp := deepD_pos d
  have HC : Hid (Ctr cb n w) := hc
  have l1 := hc.lt
  clear hc
  by_cases hx : n = 2000 ∨ dp = 41
  · have hf : holdsB n dp d = false := by unfold holdsB; simp; omega
    rw [hf]
    obtain ⟨k, n', nm, st, lb, ks⟩ := d
    unfold dv
    clear ih hl hf hsp hdp
    go_enter Tryz.func54, Tryz.ntmps54
    go_wp2_with fail
    refine (takes_no cb n dp _ hn hd hx (HC.out.alloc _)).mono ?_
    rintro e w1 ⟨rfl, hw1⟩
    obtain ⟨hk1, hc1, hs1, _⟩ := counted HC.out hw1
    clear hw1
    go_wp2_with fail
    go_ret
    exact ⟨rfl, hk1, hc1.lt, fun h => by cases h⟩
  · have hn9 : n ≤ 1999 := by omega
    have hd40 : dp ≤ 40 := by omega
    clear hx
    by_cases hk : d.kind = 4
    · have hlen := hl.len
      have HL : Hid (Lies B w (g + 1) a d.kids) := hl
      have IH : Hid (∀ (d' : Dat), d' ∈ d.kids → ∀ (a : Option Addr) (cap n : Nat) (w : World), Lies B w g a d'.kids → n ≤ 2000 → dp + 1 ≤ 41 → Ctr cb n w → Calls Tryz.prog 54 #[.pointer (some ⟨cb, 0, none⟩), dv d' a cap, .int .i64 ((dp + 1 : Nat) : Int)] w (ToldB cb (holdsB n (dp + 1) d') (n + sizeD d') w)) := ih
      obtain ⟨k, n', nm, st, lb, ks⟩ := d
      simp only at hk hlen HL IH
      subst hk
      have hs : sizeD ⟨4, n', nm, st, lb, ks⟩ = 1 + sizeL ks := by rw [sizeD, if_pos rfl]
      have hb : holdsB n dp ⟨4, n', nm, st, lb, ks⟩ = holdsL (n + 1) (dp + 1) ks := by
        unfold holdsB holdsL
        rw [hs, deepD, if_pos rfl]
        simp only [Nat.add_assoc]
      rw [hs, hb]
      unfold dv
      simp only
      clear hl ih hs hb hsp hdp
      go_enter Tryz.func54, Tryz.ntmps54
      go_wp2_with fail
      refine (takes_ok cb n dp _ hn9 hd40 (HC.out.alloc _)).mono ?_
      rintro e w1 ⟨rfl, hw1⟩
      obtain ⟨hk1, hc1, hs1, hbox⟩ := counted HC.out hw1
      have q0 : w1.cell? ⟨w.heap.size, 0, none⟩ = some (.int .i64 4) := hbox 0
      have q5 : w1.cell? ⟨w.heap.size, 5, none⟩ = some (.slice a ks.length cap) := hbox 5
      clear hw1 hbox
      have HK1 : Hid (Keep cb w w1 ∧ Ctr cb (n + 1) w1) := ⟨hk1, hc1⟩
      clear hk1 hc1 hs1
      go_wp2_with fail
      go_loopw [19] (fun i wr => ∃ j : Nat, j ≤ ks.length ∧ i = .int .i64 j ∧ Keep cb w wr ∧ Ctr cb (n + 1 + sizeL (ks.take j)) wr ∧ holdsL (n + 1) (dp + 1) (ks.take j) = true) (fun i _ => ks.length - (intOf i).toNat)
      case atStart => exact ⟨0, Nat.zero_le _, rfl, HK1.out.1, by simpa [sizeL] using HK1.out.2, by simp [holdsL, sizeL, deepL]; omega⟩
      case round =>
        clear HK1 q0 q5
        obtain ⟨j, hj, rfl, hkr, hcr, hh⟩ := hrel
        have hh' : n + 1 + sizeL (ks.take j) ≤ 2000 ∧ dp + 1 + deepL (ks.take j) ≤ 41 := by unfold holdsL at hh; simpa using hh
        clear hh
        have HH : Hid (n + 1 + sizeL (ks.take j) ≤ 2000 ∧ dp + 1 + deepL (ks.take j) ≤ 41) := hh'
        clear hh'
        by_cases hlt : j < ks.length
        · obtain ⟨kid, hkid⟩ : ∃ kid, ks[j]? = some kid := ⟨ks[j], List.getElem?_eq_getElem hlt⟩
          have hne : ks ≠ [] := by intro e; rw [e] at hlt; simp at hlt
          have hLr : Lies B wr (g + 1) a ks := HL.out.below (hkr.toBelow hB (by omega))
          obtain ⟨g', b, o, hg, ha, hbB, hall⟩ := hLr.at hne
          subst ha
          obtain ⟨a', cap', k0, k1, k2, k3, k4, k5, hkn, hkk⟩ := hall j kid hkid
          have hg' : g' = g := by omega
          subst hg'
          have HA : Hid (Lies B wr g' a' kid.kids) := hkk
          have HKr : Hid (Keep cb w wr ∧ Ctr cb (n + 1 + sizeL (ks.take j)) wr) := ⟨hkr, hcr⟩
          have lr := hcr.lt
          have E1 : Hid (sizeL (ks.take (j + 1)) = sizeL (ks.take j) + sizeD kid ∧ deepL (ks.take (j + 1)) = max (deepL (ks.take j)) (deepD kid)) := ⟨sizeL_take hkid, deepL_take hkid⟩
          have E2 : Hid (sizeL (ks.take (j + 1)) ≤ sizeL ks ∧ deepL (ks.take (j + 1)) ≤ deepL ks) := ⟨sizeL_part _ _, deepL_part _ _⟩
          have HM : Hid (kid ∈ ks) := List.mem_of_getElem? hkid
          clear hkid hall hkk hLr hne hg hkn hkr hcr
          go_wp2_with fail
          have hdi : ((dp : Int) + 1) = ((dp + 1 : Nat) : Int) := by omega
          rw [hdi]
          refine (IH.out kid HM.out a' cap' _ _ (HA.out.below ((Below.refl _ _).alloc (by omega) _)) HH.out.1 (by omega) (HKr.out.2.alloc _)).mono ?_
          rintro e w2 ⟨rfl, hk2, hl2, hc2⟩
          have hk3 : Hid (Keep cb w w2) := (HKr.out.1.alloc _).trans hk2
          have HC2 : Hid (holdsB (n + 1 + sizeL (ks.take j)) (dp + 1) kid = true → Ctr cb (n + 1 + sizeL (ks.take j) + sizeD kid) w2) := hc2
          clear hk2 hc2 HKr HA hdi
          cases hy : holdsB (n + 1 + sizeL (ks.take j)) (dp + 1) kid with
          | true =>
            have hy' : n + 1 + sizeL (ks.take j) + sizeD kid ≤ 2000 ∧ dp + 1 + deepD kid ≤ 41 := by unfold holdsB at hy; simpa using hy
            have HR : Hid (Ctr cb (n + 1 + sizeL (ks.take (j + 1))) w2 ∧ holdsL (n + 1) (dp + 1) (ks.take (j + 1)) = true) := by
              refine ⟨?_, ?_⟩
              · have := HC2.out hy
                rw [E1.out.1, ← Nat.add_assoc]
                exact this
              · unfold holdsL
                rw [E1.out.1, E1.out.2]
                have := HH.out
                simp
                omega
            clear hy hy'
            go_wp2_with fail
            go_roundw
            case rel => exact ⟨j + 1, by omega, by go_num, hk3.out, HR.out.1, HR.out.2⟩
            case measure => simp [intOf]; omega
          | false =>
            have HF : Hid (holdsL (n + 1) (dp + 1) ks = false) := by
              show holdsL (n + 1) (dp + 1) ks = false
              have hy' : ¬ (n + 1 + sizeL (ks.take j) + sizeD kid ≤ 2000 ∧ dp + 1 + deepD kid ≤ 41) := by
                unfold holdsB at hy
                intro h
                simp [h] at hy
              have h1 := E1.out
              have h2 := E2.out
              unfold holdsL
              rw [Bool.and_eq_false_iff]
              simp
              omega
            clear hy
            go_wp2_with fail
            go_ret
            exact ⟨by rw [HF.out]; rfl, hk3.out, hl2, fun h => by rw [HF.out] at h; cases h⟩
        · obtain rfl : j = ks.length := by omega
          have HKr : Hid (Keep cb w wr ∧ Ctr cb (n + 1 + sizeL (ks.take ks.length)) wr) := ⟨hkr, hcr⟩
          clear hkr hcr
          have HF : Hid (holdsL (n + 1) (dp + 1) ks = true) := by
            show holdsL (n + 1) (dp + 1) ks = true
            have := HH.out
            rw [List.take_length] at this
            unfold holdsL
            simp
            exact this
          go_wp2_with fail
          go_ret
          refine ⟨by rw [HF.out]; rfl, HKr.out.1, HKr.out.2.lt, fun _ => ?_⟩
          have := HKr.out.2
          rw [List.take_length] at this
          rw [← Nat.add_assoc]
          exact this
    · obtain ⟨k, n', nm, st, lb, ks⟩ := d
      simp only at hk
      have hk' : (k != 4) = true := by simpa using hk
      have hs : sizeD ⟨k, n', nm, st, lb, ks⟩ = 1 := by rw [sizeD, if_neg hk]
      have hb : holdsB n dp ⟨k, n', nm, st, lb, ks⟩ = true := by
        unfold holdsB
        rw [hs, deepD, if_neg hk]
        simp
        omega
      rw [hs, hb]
      unfold dv
      simp only
      clear hl ih hs hb hsp hdp
      go_enter Tryz.func54, Tryz.ntmps54
      go_wp2_with fail
      refine (takes_ok cb n dp _ hn9 hd40 (HC.out.alloc _)).mono ?_
      rintro e w1 ⟨rfl, hw1⟩
      obtain ⟨hk1, hc1, hs1, hbox⟩ := counted HC.out hw1
      have q0 : w1.cell? ⟨w.heap.size, 0, none⟩ = some (.int .i64 k) := hbox 0
      clear hw1 hbox
      have HK1 : Hid (Keep cb w w1 ∧ Ctr cb (n + 1) w1) := ⟨hk1, hc1⟩
      clear hk1 hc1 hs1
      go_wp2_with fail
      go_ret
      exact ⟨rfl, HK1.out.1, HK1.out.2.lt, fun _ => HK1.out.2⟩

theorem Lies.more {B : Nat} {w : World} : ∀ (f : Nat) (a : Option Addr) (ds : List Dat), Lies B w f a ds → Lies B w (f + 1) a ds
  | 0, a, ds, h => by
    rw [show ds = [] from h]
    exact ⟨Nat.zero_le _, Or.inl rfl⟩
  | f + 1, a, ds, h => by
    obtain ⟨hl, h⟩ := h
    refine ⟨hl, ?_⟩
    rcases h with h | ⟨b, o, ha, hb, h⟩
    · exact Or.inl h
    · refine Or.inr ⟨b, o, ha, hb, fun i d hd => ?_⟩
      obtain ⟨a', cap, c0, c1, c2, c3, c4, c5, hn, hk⟩ := h i d hd
      exact ⟨a', cap, c0, c1, c2, c3, c4, c5, hn, Lies.more f a' _ hk⟩

/-- WHETHER A DATUM IS NOT TOO MUCH. -/
theorem holds_any (B cb : Nat) (hB : B ≤ cb) : ∀ (g : Nat) (d : Dat) (a : Option Addr) (cap n dp : Nat) (w : World), Lies B w g a d.kids → n ≤ 2000 → dp ≤ 41 → Ctr cb n w →
    Calls Tryz.prog 54 #[.pointer (some ⟨cb, 0, none⟩), dv d a cap, .int .i64 (dp : Int)] w (ToldB cb (holdsB n dp d) (n + sizeD d) w)
  | 0, d, a, cap, n, dp, w, hl, hn, hd, hc => by
    refine holds_step B 0 d a cap cb n dp w (Lies.more 0 a _ hl) hn hd hB hc ?_
    intro d' hd'
    rw [show d.kids = [] from hl] at hd'
    cases hd'
  | g + 1, d, a, cap, n, dp, w, hl, hn, hd, hc => holds_step B g d a cap cb n dp w hl hn hd hB hc fun d _ a cap n w hl hn hd hc => holds_any B cb hB g d a cap n (dp + 1) w hl hn hd hc

theorem muchB_eq (d : Dat) : muchB d = !holdsB 0 1 d := by
  unfold muchB holdsB
  have h1 := sizeD_pos d
  by_cases a : sizeD d ≤ 2000
  · by_cases b : deepD d ≤ 40
    · rw [decide_eq_false (by omega), decide_eq_false (by omega), decide_eq_true (by omega), decide_eq_true (by omega)]
      rfl
    · rw [decide_eq_true (p := 40 < deepD d) (by omega), decide_eq_false (p := 1 + deepD d ≤ 41) (by omega)]
      simp
  · rw [decide_eq_true (p := 2000 < sizeD d) (by omega), decide_eq_false (p := 0 + sizeD d ≤ 2000) (by omega)]
    simp

set_option maxRecDepth 100000 in
set_option maxHeartbeats 800000 in
theorem Much_any (B g : Nat) (d : Dat) (a : Option Addr) (cap : Nat) (w : World) (hl : Lies B w g a d.kids) (hB : B ≤ w.heap.size) :
    Calls Tryz.prog 30 #[dv d a cap] w fun e w' => e = .returned (.bool (muchB d)) ∧ Below w.heap.size w w' := by
  rw [muchB_eq]
  have HH : Hid (∀ w', Lies B w' g a d.kids → Ctr (w.heap.size + 1) 0 w' → Calls Tryz.prog 54 #[.pointer (some ⟨w.heap.size + 1, 0, none⟩), dv d a cap, .int .i64 ((1 : Nat) : Int)] w' (ToldB (w.heap.size + 1) (holdsB 0 1 d) (0 + sizeD d) w')) :=
    fun w' h hc => holds_any B (w.heap.size + 1) (by omega) g d a cap 0 1 w' h (by omega) (by omega) hc
  generalize holdsB 0 1 d = y at HH ⊢
  generalize 0 + sizeD d = z at HH
  have HL : Hid (Lies B w g a d.kids) := hl
  clear hl
  obtain ⟨k, n', nm, st, lb, ks⟩ := d
  unfold dv at HH ⊢
  simp only at HH HL ⊢
  go_enter Tryz.func30, Tryz.ntmps30
  go_wp2_with fail
  refine (HH.out _ (HL.out.below (((Below.refl _ _).alloc hB _).alloc (by simp; omega) _)) ⟨by simp, by go_simp, by go_simp⟩).mono ?_
  rintro e w1 ⟨rfl, hk1, hl1, hc1⟩
  have hb1 : Below w.heap.size w w1 := (((Below.refl _ _).alloc (Nat.le_refl _) _).alloc (by simp) _).trans (hk1.toBelow (by omega) (by simp; omega))
  clear hk1 hl1 hc1
  go_wp2_with fail
  go_ret
  exact ⟨rfl, hb1⟩
end
section
set_option linter.unusedVariables false
set_option linter.unusedSimpArgs false
open Go.RowKit Go.Maps Go.WideMaps

/-- Blocks below B are as they were. -/
def Old (B : Nat) (w w' : World) : Prop := ∀ k, k < B → w'.heap[k]? = w.heap[k]?
theorem Old.refl (B : Nat) (w : World) : Old B w w := fun _ _ => rfl
theorem Old.trans {B : Nat} {a b c : World} (h : Old B a b) (h' : Old B b c) : Old B a c := fun k hk => (h' k hk).trans (h k hk)
theorem Old.mono {B B' : Nat} {a b : World} (h : Old B a b) (hb : B' ≤ B) : Old B' a b := fun k hk => h k (Nat.lt_of_lt_of_le hk hb)
theorem Old.cell {B : Nat} {w w' : World} (h : Old B w w') {b : Nat} (hb : b < B) (q : Nat) : w'.cell? ⟨b, q, none⟩ = w.cell? ⟨b, q, none⟩ := World.cell?_of_block (h b hb)

/-- Texts l lie behind a, in a block below B. -/
def Strs (B : Nat) (w : World) (a : Option Addr) (l : List ByteArray) : Prop :=
  l.length ≤ 9223372036854775807 ∧ (∀ s ∈ l, s.size ≤ maxLen) ∧ (l = [] ∨ ∃ b o, a = some ⟨b, o, none⟩ ∧ b < B ∧ ∀ (i : Nat) (s : ByteArray), l[i]? = some s → w.cell? ⟨b, o + i, none⟩ = some (.string s))
theorem Strs.stay {B B' : Nat} {w w' : World} {a : Option Addr} {l : List ByteArray} (h : Strs B w a l) (hw : Old B w w') (hB : B ≤ B') : Strs B' w' a l := by
  obtain ⟨h1, h2, h⟩ := h
  refine ⟨h1, h2, ?_⟩
  rcases h with h | ⟨b, o, ha, hb, h⟩
  · exact Or.inl h
  · exact Or.inr ⟨b, o, ha, Nat.lt_of_lt_of_le hb hB, fun i s hs => (hw.cell hb _).trans (h i s hs)⟩
theorem Strs.at {B : Nat} {w : World} {a : Option Addr} {l : List ByteArray} (h : Strs B w a l) {j : Nat} (hj : j < l.length) :
    ∃ b o s, a = some ⟨b, o, none⟩ ∧ b < B ∧ l[j]? = some s ∧ w.cell? ⟨b, o + j, none⟩ = some (.string s) ∧ s.size ≤ maxLen := by
  obtain ⟨_, h2, h⟩ := h
  rcases h with h | ⟨b, o, ha, hb, h⟩
  · subst h; simp at hj
  · exact ⟨b, o, l[j], ha, hb, List.getElem?_eq_getElem hj, h j _ (List.getElem?_eq_getElem hj), h2 _ (List.getElem_mem hj)⟩

/-- How often a text stands there. -/
def cntS (l : List ByteArray) (s : ByteArray) : Nat := (l.filter fun x => decide (x = s)).length
theorem cntS_le (l : List ByteArray) (s : ByteArray) : cntS l s ≤ l.length := List.length_filter_le _ _
theorem cntS_in (l : List ByteArray) (s : ByteArray) : decide (0 < cntS l s) = inB l s := by
  unfold cntS inB
  rw [Bool.eq_iff_iff, decide_eq_true_iff, List.length_pos_iff_exists_mem, List.any_eq_true]
  constructor
  · rintro ⟨x, hx⟩
    rw [List.mem_filter] at hx
    exact ⟨x, hx.1, hx.2⟩
  · rintro ⟨x, h1, h2⟩
    exact ⟨x, List.mem_filter.2 ⟨h1, h2⟩⟩
theorem cntS_put {l : List ByteArray} {j : Nat} {s : ByteArray} (h : l[j]? = some s) (t : ByteArray) : cntS (l.take (j + 1)) t = putV (cntS (l.take j)) s (cntS (l.take j) s + 1) t := by
  rw [List.take_add_one, h]
  unfold cntS putV
  by_cases e : t = s
  · subst e
    simp
  · have e' : ¬ s = t := fun x => e x.symm
    simp [e, e', List.filter_cons]

theorem all_take {p : ByteArray → Bool} {l : List ByteArray} {j : Nat} {s : ByteArray} (h : l[j]? = some s) (ha : (l.take j).all p = true) (hs : p s = true) : (l.take (j + 1)).all p = true := by
  rw [List.take_add_one, h]
  simp only [List.all_append, ha, Option.toList, List.all_cons, List.all_nil, hs]
  rfl
theorem all_stop {p : ByteArray → Bool} {l : List ByteArray} {j : Nat} {s : ByteArray} (h : l[j]? = some s) (hs : p s = false) : l.all p = false := by
  rw [List.all_eq_false]
  exact ⟨s, List.mem_of_getElem? h, by simp [hs]⟩

/-- What literalsOf answers. -/
def ToldL (l : List ByteArray) (w : World) (e : Ending) (w' : World) : Prop :=
  Below w.heap.size w w' ∧ if l.all litOk then e = .returned (.tuple #[.map (some w.heap.size), .bool true]) ∧ LitM w.heap.size l w' else e = .returned (.tuple #[.map none, .bool false])

set_option maxRecDepth 100000 in
set_option maxHeartbeats 1600000 in
theorem literalsOf_any (B : Nat) (l : List ByteArray) (a : Option Addr) (cap : Nat) (w : World) (h : Strs B w a l) (hB : B ≤ w.heap.size) (h20 : l.length ≤ 20) :
    Calls Tryz.prog 31 #[.slice a l.length cap] w (ToldL l w) := by
  have hl := h.1
  have HS : Hid (Strs B w a l ∧ B ≤ w.heap.size) := ⟨h, hB⟩
  clear h hB
  have hmm := @run_makeMap Tryz.prog
  go_enter Tryz.func31, Tryz.ntmps31
  go_wp2_with fail
  go_loopw [2, 9] (fun mv i wr => ∃ j : Nat, j ≤ l.length ∧ mv = .map (some w.heap.size) ∧ i = .int .i64 j ∧ Below w.heap.size w wr ∧ MapN w.heap.size j (cntS (l.take j)) wr ∧ (l.take j).all litOk = true) (fun _ i _ => l.length - (intOf i).toNat)
  case atStart => exact ⟨0, Nat.zero_le _, rfl, rfl, (Below.refl _ _).alloc (Nat.le_refl _) _, (MapN.made w).congr (fun s => by rw [List.take_zero]; rfl), rfl⟩
  case round =>
    obtain ⟨j, hj, rfl, rfl, hb, hm, hall⟩ := hrel
    have HM : Hid (Below w.heap.size w wr ∧ MapN w.heap.size j (cntS (l.take j)) wr ∧ (l.take j).all litOk = true) := ⟨hb, hm, hall⟩
    by_cases hlt : j < l.length
    · obtain ⟨b, o, s, rfl, hbB, hs, hc, hz⟩ := HS.out.1.at hlt
      have hc' := (hb.cell (p := ⟨b, o + j, none⟩) (Nat.lt_of_lt_of_le hbB HS.out.2)).trans hc
      have HX : Hid (l[j]? = some s ∧ s.size ≤ maxLen) := ⟨hs, hz⟩
      have hjm : j < maxLen := by unfold maxLen; omega
      clear hc hs hz hb hm hall
      have NA : Hid (∀ w, Calls Tryz.prog 15 #[.string s] w fun e w' => e = .returned (.bool (namedB s)) ∧ w' = w) := fun w => Named_any s HX.out.2 w
      cases hp : litOk s with
      | false =>
        have HF : Hid (l.all litOk = false) := all_stop HX.out.1 hp
        cases hn : namedB s with
        | false =>
          rw [hn] at NA
          clear hp hn
          go_wp2_with fail
          refine (NA.out _).mono ?_
          rintro e w' ⟨rfl, rfl⟩
          go_wp2_with fail
          go_ret2
          refine ⟨HM.out.1, ?_⟩
          rw [HF.out]
          rfl
        | true =>
          rw [hn] at NA
          by_cases hd : s = dotsS
          · subst hd
            clear hp hn
            unfold dotsS at *
            go_wp2_with fail
            refine (NA.out _).mono ?_
            rintro e w' ⟨rfl, rfl⟩
            go_wp2_with fail
            go_ret2
            refine ⟨HM.out.1, ?_⟩
            rw [HF.out]
            rfl
          · have ha : s = anyS := by
              unfold litOk at hp
              rw [hn] at hp
              simp [hd] at hp
              exact hp
            subst ha
            clear hp hn hd
            unfold anyS at *
            go_wp2_with fail
            refine (NA.out _).mono ?_
            rintro e w' ⟨rfl, rfl⟩
            go_wp2_with fail
            go_ret2
            refine ⟨HM.out.1, ?_⟩
            rw [HF.out]
            rfl
      | true =>
        have HP : Hid ((l.take (j + 1)).all litOk = true) := all_take HX.out.1 HM.out.2.2 hp
        have hpp : namedB s = true ∧ ¬ s = dotsS ∧ ¬ s = anyS := by
          unfold litOk at hp
          simpa using hp
        rw [hpp.1] at NA
        have hd' := ne_dots hpp.2.1
        have ha' := ne_any hpp.2.2
        clear hp hpp
        have hr := HM.out.2.1.run (t := 66) Tryz.underlying66 s HX.out.2
        have hcn := cntS_le (l.take j) s
        have hcl : (l.take j).length ≤ j := List.length_take_le _ _
        have HPU : Hid (∀ t, cntS (l.take (j + 1)) t = putV (cntS (l.take j)) s (cntS (l.take j) s + 1) t) := cntS_put HX.out.1
        generalize hcq : cntS (l.take j) s = c at hr hcn
        have HCQ : Hid (cntS (l.take j) s = c) := hcq
        clear hcq
        go_wp2_with fail
        refine (NA.out _).mono ?_
        rintro e w' ⟨rfl, rfl⟩
        go_wp2_with (at_mapUpdate; refine wpList_putN rfl _ _ _ 66 rfl Tryz.underlying66 rfl HM.out.2.1 hjm s rfl HX.out.2 (c + 1) rfl (by omega) ?_)
        intro w1 hm1 hg1
        have HM1 : Hid (Below w.heap.size w w1 ∧ MapN w.heap.size (j + 1) (cntS (l.take (j + 1))) w1) := ⟨HM.out.1.grown hg1 HM.out.1.size (fun k hk => by cases hk; exact Nat.le_refl _), hm1.congr (fun t => by rw [HPU.out t, HCQ.out])⟩
        clear hm1 hg1 hc' hr
        go_wp2_with fail
        go_roundw
        case rel => exact ⟨j + 1, by omega, rfl, by go_num, HM1.out.1, HM1.out.2, HP.out⟩
        case measure => simp [intOf]; omega
    · obtain rfl : j = l.length := by omega
      clear hb hm hall
      go_wp2_with fail
      go_ret2
      have h3 := HM.out
      rw [List.take_length] at h3
      refine ⟨h3.1, ?_⟩
      rw [h3.2.2]
      exact ⟨rfl, l.length, _, h3.2.1, h20, fun s => Nat.le_trans (cntS_le l s) h20, fun s => cntS_in l s⟩
end
end Go.Proofs.YtgeedaabdonjcaeGreatDoor
