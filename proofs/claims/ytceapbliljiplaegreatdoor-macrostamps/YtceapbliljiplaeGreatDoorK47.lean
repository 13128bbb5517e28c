/- Chapter 5's laws: rows of data; a rule read. Chapter 5's laws: has no symbol that stamp? Chapter 5's laws: one stamp for another. -/
import Derived.Test.YtceapbliljiplaeGreatDoorK46
namespace Go.Proofs.YtceapbliljiplaeGreatDoor
section
set_option linter.unusedVariables false
set_option linter.unusedSimpArgs false
open Go.RowKit Go.Maps Go.WideMaps

theorem Dn.upto {w : World} {f : Nat} {a : Option Addr} {ds : List Dat} (h : Dn w f a ds) (k : Nat) : Dn w (f + k) a ds := Dc.upto h k
theorem Dn.nil (w : World) (f : Nat) (a : Option Addr) : Dn w f a [] := Dc.nil _ _ _ _
/-- A row of data in a block of its own. -/
theorem Dn.row {w : World} {N F : Nat} (es : List (Dat × Option Addr × Nat)) (hN : w.heap[N]? = some (.cells (flat es).toArray 28 (0, 0))) (hl : es.length ≤ 9223372036854775807) (h : ∀ e ∈ es, e.1.name.size ≤ maxLen ∧ e.1.kids.length ≤ e.2.2 ∧ Dn w F e.2.1 e.1.kids) : Dn w (F + 1) (some ⟨N, 0, none⟩) (es.map (·.1)) := by
  refine ⟨by simpa using hl, Or.inr ⟨N, 0, rfl, (Array.getElem?_eq_some_iff.1 hN).1, fun i d hd => ?_⟩⟩
  rw [List.getElem?_map] at hd
  obtain ⟨e, he, rfl⟩ := Option.map_eq_some_iff.1 hd
  have hc : ∀ k u, k < 6 → [Value.int .i64 e.1.kind, .int .i64 e.1.n, .string e.1.name, .int .i64 e.1.stamp, .int .i64 e.1.lib, .slice e.2.1 e.1.kids.length e.2.2][k]? = some u → w.cell? ⟨N, 0 + i * 6 + k, none⟩ = some u := by
    intro k u hk hu
    have := flat_at es i he k hk
    simp [World.cell?, hN, this, hu]
  obtain ⟨h1, h2, h3⟩ := h e (List.mem_of_getElem? he)
  exact ⟨e.2.1, e.2.2, hc 0 _ (by decide) rfl, hc 1 _ (by decide) rfl, hc 2 _ (by decide) rfl, hc 3 _ (by decide) rfl, hc 4 _ (by decide) rfl, hc 5 _ (by decide) rfl, h1, h2, h3⟩

/-- Equal, of data that lie in the world at hand. -/
theorem Equal_here (f g : Nat) (d e : Dat) (a a2 : Option Addr) (cap cap2 : Nat) (w : World) (hl : Dn w f a d.kids) (hm : Dn w g a2 e.kids) (h : bareD d = bareD e) : Calls Tryz.prog 12 #[dv d a cap, dv e a2 cap2] w (Yes w) :=
  Equal_bare w.heap.size (f + 1) (g + 1) d e a a2 cap cap2 w (Nat.le_refl _) hl.lc.1 hm.lc.1 h

theorem smD_list {l : List Dat} (h : ∀ d ∈ l, smD d) : smD (listD l) := by
  have aux : ∀ (l : List Dat), (∀ d ∈ l, smD d) → smL l := by
    intro l
    induction l with
    | nil => intro _; rw [smL]; trivial
    | cons x r ih => intro h; rw [smL]; exact ⟨h x (by simp), ih fun d hd => h d (by simp [hd])⟩
  unfold listD
  rw [smD]
  exact ⟨fun h => by simp at h, fun _ => aux l h⟩
theorem smD_num (n : Int) : smD (numD n) := by
  unfold numD
  rw [smD]
  exact ⟨fun h => by simp at h, fun h => by simp at h⟩
theorem smD_sym {s : ByteArray} (h : s.size ≤ 281474976710656) : smD (symD s) := by
  unfold symD
  rw [smD]
  exact ⟨fun _ => h, fun h => by simp at h⟩

def pS : Dat := listD [symD mS, symD xS]
def pE : Dat := listD [symD mS, symD xS, symD dotsS]
def tE : Dat := listD [symD xS, symD dotsS]
def tM : Dat := listD [symD lS, listD [symD gS, symD xS], symD dotsS]
theorem readPS : readL (⟨#[40, 109, 32, 120, 41]⟩ : ByteArray).data.toList = .inr [pS] := by kernel_rfl
theorem readX : readL (⟨#[120]⟩ : ByteArray).data.toList = .inr [symD xS] := by kernel_rfl
theorem readPE : readL (⟨#[40, 109, 32, 120, 32, 46, 46, 46, 41]⟩ : ByteArray).data.toList = .inr [pE] := by kernel_rfl
theorem readTE : readL (⟨#[40, 120, 32, 46, 46, 46, 41]⟩ : ByteArray).data.toList = .inr [tE] := by kernel_rfl
theorem readTM : readL (⟨#[40, 108, 105, 115, 116, 32, 40, 103, 32, 120, 41, 32, 46, 46, 46, 41]⟩ : ByteArray).data.toList = .inr [tM] := by kernel_rfl
theorem smSelf : smR selfR := by
  intro p t h
  simp [selfR] at h
  obtain ⟨rfl, rfl⟩ := h
  exact smD_sym (by decide)
theorem smEach : smR eachR := by
  intro p t h
  simp [eachR] at h
  obtain ⟨rfl, rfl⟩ := h
  exact smD_list (by intro d hd; simp at hd; rcases hd with rfl | rfl <;> exact smD_sym (by decide))
theorem smMany : smR manyR := by
  intro p t h
  simp [manyR] at h
  obtain ⟨rfl, rfl⟩ := h
  refine smD_list ?_
  intro d hd
  simp at hd
  rcases hd with rfl | rfl | rfl
  · exact smD_sym (by decide)
  · exact smD_list (by intro d hd; simp at hd; rcases hd with rfl | rfl <;> exact smD_sym (by decide))
  · exact smD_sym (by decide)
end
section
set_option linter.unusedVariables false
set_option linter.unusedSimpArgs false
open Go.RowKit Go.Maps Go.WideMaps

theorem noStL_all (s : Int) : ∀ (l : List Dat), noStL s l = l.all (noSt s)
  | [] => by rw [noStL]; rfl
  | d :: r => by rw [noStL, noStL_all s r]; rfl

theorem all_take_succ {α : Type} {p : α → Bool} {l : List α} {j : Nat} {x : α} (h : l[j]? = some x) : (l.take (j + 1)).all p = ((l.take j).all p && p x) := by
  rw [List.take_add_one, h]
  simp

/-- What without keeps: the datum's box. -/
structure BX (w : World) (D : Array Value) (T : TypeId) (W : World) : Prop where
  old : Below w.heap.size w W
  b0 : W.heap[w.heap.size]? = some (.cells D T (0, 0))
theorem BX.below {w W W' : World} {D : Array Value} {T : TypeId} (h : BX w D T W) (hb : Below W.heap.size W W') : BX w D T W' :=
  ⟨h.old.trans (hb.mono h.old.size), (hb.block _ (Array.getElem?_eq_some_iff.1 h.b0).1).trans h.b0⟩
theorem BX.cell {w W : World} {D : Array Value} {T : TypeId} (h : BX w D T W) (q : Nat) : W.cell? ⟨w.heap.size, q, none⟩ = D[q]? := by simp [World.cell?, h.b0]
theorem BX.start (w : World) (D : Array Value) (T : TypeId) : BX w D T (w.alloc (.cells D T)) := ⟨(Below.refl _ _).alloc (Nat.le_refl _) _, World.alloc_heap_new w _⟩

set_option maxRecDepth 100000 in
set_option maxHeartbeats 3200000 in
theorem without_yes (s : Int) (d : Dat) (a : Option Addr) (cap : Nat) (w : World) (h3 : d.kind = 3) (hs : d.stamp = s) :
    Calls Tryz.prog 10 #[dv d a cap, .int .i64 s] w fun e w' => e = .returned (.bool (noSt s d)) ∧ Below w.heap.size w w' := by
  obtain ⟨k, n, nm, st, lb, ks⟩ := d
  simp only at h3 hs
  subst h3 hs
  have e1 : noSt st ⟨3, n, nm, st, lb, ks⟩ = false := by rw [noSt, if_pos rfl]; simp
  rw [e1]
  have H0 := hidd (BX.start w #[.int .i64 3, .int .i64 n, .string nm, .int .i64 st, .int .i64 lb, .slice a ks.length cap] 28)
  clear e1
  unfold dv
  go_enter Tryz.func10, Tryz.ntmps10
  go_wp2_with fail
  go_ret
  exact ⟨rfl, H0.out.old⟩

set_option maxRecDepth 100000 in
set_option maxHeartbeats 3200000 in
theorem without_else (B f : Nat) (s : Int) (d : Dat) (a : Option Addr) (cap : Nat) (w : World) (hl : Lies B w (f + 1) a d.kids) (hB : B ≤ w.heap.size) (h4 : d.kind ≠ 4) (h3 : ¬ (d.kind = 3 ∧ d.stamp = s)) :
    Calls Tryz.prog 10 #[dv d a cap, .int .i64 s] w fun e w' => e = .returned (.bool (noSt s d)) ∧ Below w.heap.size w w' := by
  have hlen := hl.len
  obtain ⟨k, n, nm, st, lb, ks⟩ := d
  simp only at h3 h4 hl hlen
  have e1 : noSt s ⟨k, n, nm, st, lb, ks⟩ = true := by
    rw [noSt]
    by_cases hk : k = 3
    · rw [if_pos hk]
      have : st ≠ s := fun e => h3 ⟨hk, e⟩
      simp [this]
    · rw [if_neg hk, if_neg h4]
  rw [e1]
  clear e1
  have H0 := hidd (BX.start w #[.int .i64 k, .int .i64 n, .string nm, .int .i64 st, .int .i64 lb, .slice a ks.length cap] 28)
  have HL := hidd hl
  have h4' : (k == 4) = false := by simpa using h4
  have h3a : k ≠ 3 ∨ st ≠ s := by
    by_cases hk : k = 3
    · exact .inr fun e => h3 ⟨hk, e⟩
    · exact .inl hk
  clear h3 hl
  unfold dv
  have key : ∀ {P : Prop}, ((k == 3) = false → P) → ((k == 3) = true → (st == s) = false → P) → P := fun h1 h2 => by
    by_cases hk : k = 3
    · rcases h3a with h | h
      · exact absurd hk h
      · exact h2 (by simpa using hk) (by simpa using h)
    · exact h1 (by simpa using hk)
  refine key (fun hk3 => ?_) (fun hk3 hst => ?_)
  all_goals
    clear key h3a h4
    go_enter Tryz.func10, Tryz.ntmps10
    go_wp2_with fail
    go_loopw [19] (fun i wr => ∃ j : Nat, j ≤ ks.length ∧ i = .int .i64 j ∧ Hid (BX w #[.int .i64 k, .int .i64 n, .string nm, .int .i64 st, .int .i64 lb, .slice a ks.length cap] 28 wr)) (fun i _ => ks.length - (intOf i).toNat)
    case atStart => exact ⟨0, Nat.zero_le _, rfl, H0.out⟩
    case round =>
      obtain ⟨j, hj, rfl, HR⟩ := hrel
      by_cases hlt : j < ks.length
      · obtain ⟨kid, hkid⟩ : ∃ kid, ks[j]? = some kid := ⟨ks[j], List.getElem?_eq_getElem hlt⟩
        have hne : ks ≠ [] := by intro e; rw [e] at hlt; simp at hlt
        obtain ⟨g', b, o, hg, ha, hbB, hall⟩ := HL.out.at hne
        subst ha
        obtain ⟨a', cap', k0, k1, k2, k3, k4, k5, hkn, hkk⟩ := hall j kid hkid
        have hc : ∀ q, wr.cell? ⟨b, q, none⟩ = w.cell? ⟨b, q, none⟩ := fun q => HR.out.old.cell (p := ⟨b, q, none⟩) (Nat.lt_of_lt_of_le hbB hB)
        have j0 := (hc _).trans k0
        have j1 := (hc _).trans k1
        have j2 := (hc _).trans k2
        have j3 := (hc _).trans k3
        have j4 := (hc _).trans k4
        have j5 := (hc _).trans k5
        have H2 := hidd (HR.out.below ((Below.refl _ _).alloc (Nat.le_refl _) (.cells #[.int .i64 kid.kind, .int .i64 kid.n, .string kid.name, .int .i64 kid.stamp, .int .i64 kid.lib, .slice a' kid.kids.length cap'] 28)))
        have c0 := H2.out.cell 0
        simp at c0
        clear k0 k1 k2 k3 k4 k5 hall hkk hkid hc hg
        go_wp2_with fail
        go_roundw
        case rel => exact ⟨j + 1, by omega, by go_num, H2.out⟩
        case measure => simp [intOf]; omega
      · obtain rfl : j = ks.length := by omega
        go_wp2_with fail
        go_ret
        exact ⟨rfl, HR.out.old⟩

set_option maxRecDepth 100000 in
set_option maxHeartbeats 3200000 in
theorem without_list (B f : Nat) (s : Int) (d : Dat) (a : Option Addr) (cap : Nat) (w : World) (hl : Lies B w (f + 1) a d.kids) (hB : B ≤ w.heap.size) (h4 : d.kind = 4)
    (ih : ∀ (d' : Dat), d' ∈ d.kids → ∀ (a : Option Addr) (cap : Nat) (w : World), Lies B w f a d'.kids → B ≤ w.heap.size → Calls Tryz.prog 10 #[dv d' a cap, .int .i64 s] w fun e w' => e = .returned (.bool (noSt s d')) ∧ Below w.heap.size w w') :
    Calls Tryz.prog 10 #[dv d a cap, .int .i64 s] w fun e w' => e = .returned (.bool (noSt s d)) ∧ Below w.heap.size w w' := by
  have hlen := hl.len
  obtain ⟨k, n, nm, st, lb, ks⟩ := d
  simp only at h4 hl hlen ih
  subst h4
  have e1 : noSt s ⟨4, n, nm, st, lb, ks⟩ = ks.all (noSt s) := by rw [noSt, if_neg (by decide), if_pos rfl, noStL_all]
  rw [e1]
  clear e1
  have H0 := hidd (BX.start w #[.int .i64 4, .int .i64 n, .string nm, .int .i64 st, .int .i64 lb, .slice a ks.length cap] 28)
  have HL := hidd hl
  have IH := hidd ih
  clear hl ih
  unfold dv
  go_enter Tryz.func10, Tryz.ntmps10
  go_wp2_with fail
  go_loopw [19] (fun i wr => ∃ j : Nat, j ≤ ks.length ∧ i = .int .i64 j ∧ Hid (BX w #[.int .i64 4, .int .i64 n, .string nm, .int .i64 st, .int .i64 lb, .slice a ks.length cap] 28 wr ∧ (ks.take j).all (noSt s) = true)) (fun i _ => ks.length - (intOf i).toNat)
  case atStart => exact ⟨0, Nat.zero_le _, rfl, H0.out, rfl⟩
  case round =>
    obtain ⟨j, hj, rfl, HR⟩ := hrel
    by_cases hlt : j < ks.length
    · obtain ⟨kid, hkid⟩ : ∃ kid, ks[j]? = some kid := ⟨ks[j], List.getElem?_eq_getElem hlt⟩
      have hne : ks ≠ [] := by intro e; rw [e] at hlt; simp at hlt
      obtain ⟨g', b, o, hg, ha, hbB, hall⟩ := HL.out.at hne
      subst ha
      obtain ⟨a', cap', k0, k1, k2, k3, k4, k5, hkn, hkk⟩ := hall j kid hkid
      have hg' : g' = f := by omega
      subst hg'
      have hc : ∀ q, wr.cell? ⟨b, q, none⟩ = w.cell? ⟨b, q, none⟩ := fun q => HR.out.1.old.cell (p := ⟨b, q, none⟩) (Nat.lt_of_lt_of_le hbB hB)
      have j0 := (hc _).trans k0
      have j1 := (hc _).trans k1
      have j2 := (hc _).trans k2
      have j3 := (hc _).trans k3
      have j4 := (hc _).trans k4
      have j5 := (hc _).trans k5
      have H2 := hidd (HR.out.1.below ((Below.refl _ _).alloc (Nat.le_refl _) (.cells #[.int .i64 kid.kind, .int .i64 kid.n, .string kid.name, .int .i64 kid.stamp, .int .i64 kid.lib, .slice a' kid.kids.length cap'] 28)))
      have c0 := H2.out.cell 0
      simp at c0
      have CA : Hid (∀ W, Below w.heap.size w W → Calls Tryz.prog 10 #[dv kid a' cap', .int .i64 s] W fun e w' => e = .returned (.bool (noSt s kid)) ∧ Below W.heap.size W w') := fun W hb => IH.out kid (List.mem_of_getElem? hkid) a' cap' W (hkk.below (hb.mono hB)) (Nat.le_trans hB hb.size)
      have TK : Hid ((ks.take (j + 1)).all (noSt s) = noSt s kid) := by
        show _ = _
        rw [all_take_succ hkid, HR.out.2]
        rfl
      have FA : Hid (noSt s kid = false → ks.all (noSt s) = false) := fun h => by
        rw [List.all_eq_false]
        exact ⟨kid, List.mem_of_getElem? hkid, by simp [h]⟩
      unfold dv at CA
      clear k0 k1 k2 k3 k4 k5 hall hkk hkid hc hg
      generalize noSt s kid = y at CA TK FA
      go_wp2_with fail
      refine (CA.out _ H2.out.old).mono ?_
      rintro e w2 ⟨rfl, hb2⟩
      have H3 := hidd (H2.out.below hb2)
      clear hb2 c0
      cases y with
      | true =>
        go_wp2_with fail
        go_roundw
        case rel => exact ⟨j + 1, by omega, by go_num, H3.out, TK.out⟩
        case measure => simp [intOf]; omega
      | false =>
        go_wp2_with fail
        go_ret
        refine ⟨?_, H3.out.old⟩
        rw [FA.out trivial]
        rfl
    · obtain rfl : j = ks.length := by omega
      have HF : Hid (ks.all (noSt s) = true) := by
        have := HR.out.2
        rw [List.take_length] at this
        exact this
      go_wp2_with fail
      go_ret
      refine ⟨?_, HR.out.1.old⟩
      rw [HF.out]
      rfl

/-- HAS NO SYMBOL THAT STAMP? -/
theorem without_any (B : Nat) (s : Int) : ∀ (f : Nat) (d : Dat) (a : Option Addr) (cap : Nat) (w : World), Lies B w f a d.kids → B ≤ w.heap.size →
    Calls Tryz.prog 10 #[dv d a cap, .int .i64 s] w fun e w' => e = .returned (.bool (noSt s d)) ∧ Below w.heap.size w w' := by
  intro f
  induction f with
  | zero =>
    intro d a cap w hl hB
    by_cases h3 : d.kind = 3 ∧ d.stamp = s
    · exact without_yes s d a cap w h3.1 h3.2
    · by_cases h4 : d.kind = 4
      · refine without_list B 0 s d a cap w (Lies.more 0 a _ hl) hB h4 fun d' hd => ?_
        rw [show d.kids = [] from hl] at hd
        cases hd
      · exact without_else B 0 s d a cap w (Lies.more 0 a _ hl) hB h4 h3
  | succ f ih =>
    intro d a cap w hl hB
    by_cases h3 : d.kind = 3 ∧ d.stamp = s
    · exact without_yes s d a cap w h3.1 h3.2
    · by_cases h4 : d.kind = 4
      · exact without_list B f s d a cap w hl hB h4 fun d' _ a cap w hl hB => ih d' a cap w hl hB
      · exact without_else B f s d a cap w hl hB h4 h3
end
section
set_option linter.unusedVariables false
set_option linter.unusedSimpArgs false
open Go.RowKit Go.Maps Go.WideMaps

mutual
/-- No list is too long to be copied. -/
def fewD : Dat → Prop
  | ⟨k, n, nm, st, lb, ks⟩ => ks.length * 72 ≤ 140737488355328 ∧ fewL ks
def fewL : List Dat → Prop
  | [] => True
  | d :: r => fewD d ∧ fewL r
end
theorem fewL_mem : ∀ (l : List Dat), fewL l → ∀ d ∈ l, fewD d
  | x :: r, h, d, hd => by
    rw [fewL] at h
    rcases List.mem_cons.1 hd with rfl | hd
    · exact h.1
    · exact fewL_mem r h.2 d hd

mutual
theorem fewD_bare : ∀ (d : Dat), sizeD d ≤ 2000 → fewD (bareD d)
  | ⟨k, n, nm, st, lb, ks⟩, h => by
    rw [bareD]
    rw [sizeD] at h
    split
    · rename_i hk
      rw [if_pos hk] at h
      rw [fewD, bareL_map, List.length_map]
      have h2 := sizeL_many ks
      refine ⟨by omega, ?_⟩
      rw [← bareL_map]
      exact fewL_bare ks (by omega)
    · split
      · simp [fewD, fewL]
      · split <;> simp [fewD, fewL]
theorem fewL_bare : ∀ (l : List Dat), sizeL l ≤ 2000 → fewL (bareL l)
  | [], _ => by rw [bareL, fewL]; trivial
  | d :: r, h => by
    rw [sizeL] at h
    rw [bareL, fewL]
    exact ⟨fewD_bare d (by omega), fewL_bare r (by omega)⟩
end
theorem fewD_zero : fewD zeroD := by unfold zeroD; rw [fewD, fewL]; simp

theorem fewD_rules (lits : List ByteArray) (ks : List Dat) (sp lb : Int) : ∀ (rules : List (Dat × Dat)), fewD (useRules lits ks sp lb rules).1
  | [] => by rw [useRules]; exact fewD_zero
  | (p, t) :: r => by
    rw [useRules]
    cases fitL lits p.kids.tail ks (fun _ => []) with
    | none => exact fewD_rules lits ks sp lb r
    | some m =>
      simp only [Option.map_some, Option.getD_some]
      unfold grownM
      split
      · split
        · exact fewD_zero
        · rename_i h
          refine fewD_bare _ ?_
          unfold muchB at h
          simp at h
          omega
      · exact fewD_zero
theorem fewD_use (lits : List ByteArray) (rules : List (Dat × Dat)) (form : Dat) (sp lb : Int) : fewD (useM lits rules form sp lb).1 := by
  unfold useM
  split
  · exact fewD_zero
  · split
    · exact fewD_zero
    · split
      · exact fewD_zero
      · split
        · exact fewD_zero
        · exact fewD_rules _ _ _ _ _

theorem Nod.set3 {N : Nat} {d : Dat} {v : Value} {w : World} (h : Nod N d v w) (x : Int) : Nod N { d with stamp := x } v (w.setCell ⟨N, 3, none⟩ (.int .i64 x)) := by
  obtain ⟨l, q0, q1, q2, q3, q4, q5, z⟩ := h
  refine ⟨by simpa [World.setCell] using l, ?_, ?_, ?_, ?_, ?_, ?_, fun j => ?_⟩
  all_goals go_simp
  all_goals simp [*]

/-- What restamped keeps in its loop. -/
structure RS (w : World) (d : Dat) (sl : Value) (g : Dat → Dat) (done : List Dat) (v : Value) (es : List (Dat × Option Addr × Nat)) (W : World) : Prop where
  old : Below w.heap.size w W
  box : Nod w.heap.size d sl W
  out : Nod (w.heap.size + 1) zeroD (.slice none 0 0) W
  row : RowC (w.heap.size + 2) v es W
  same : es.map (·.1) = done.map g
theorem RS.below {w W W' : World} {d : Dat} {sl : Value} {g : Dat → Dat} {done : List Dat} {v : Value} {es : List (Dat × Option Addr × Nat)} (h : RS w d sl g done v es W) (hb : Below W.heap.size W W') : RS w d sl g done v es W' :=
  ⟨h.old.trans (hb.mono h.old.size), h.box.after hb, h.out.after hb, h.row.below hb, h.same⟩
theorem RS.start (w : World) (d : Dat) (sl : Value) (g : Dat → Dat) : RS w d sl g [] (.slice none 0 0) [] ((w.alloc (.cells #[.int .i64 d.kind, .int .i64 d.n, .string d.name, .int .i64 d.stamp, .int .i64 d.lib, sl] 28)).alloc (.cells #[.int .i64 0, .int .i64 0, .string ⟨#[]⟩, .int .i64 0, .int .i64 0, .slice none 0 0] 28)) := by
  refine ⟨((Below.refl _ _).alloc (Nat.le_refl _) _).alloc (by simp) _, (Nod.made w d sl).alloc _, ?_, RowC.nil _ _, rfl⟩
  have := Nod.made (w.alloc (.cells #[.int .i64 d.kind, .int .i64 d.n, .string d.name, .int .i64 d.stamp, .int .i64 d.lib, sl] 28)) zeroD (.slice none 0 0)
  simpa [zeroD, emS] using this
theorem RS.set3 {w W : World} {d : Dat} {sl : Value} {g : Dat → Dat} {done : List Dat} {v : Value} {es : List (Dat × Option Addr × Nat)} (h : RS w d sl g done v es W) (x : Int) : RS w { d with stamp := x } sl g done v es (W.setCell ⟨w.heap.size, 3, none⟩ (.int .i64 x)) := by
  have hke : Keep w.heap.size W (W.setCell ⟨w.heap.size, 3, none⟩ (.int .i64 x)) := (Keep.refl _ _).setCell _ rfl _
  exact ⟨h.old.setCell (p := ⟨w.heap.size, 3, none⟩) (Nat.le_refl _) _, h.box.set3 x, h.out.keep hke (by omega), h.row.keep hke (by omega), h.same⟩

theorem ret13 {ts : Array Value} {W : World} {R : Nat} {d : Dat} {v : Value} (h : Nod R d v W) (h6 : ts[6]? = some (.pointer (some ⟨R, 0, none⟩))) :
    (results Tryz.f13 ts).run Tryz.prog W = .ok (.agg #[.int .i64 d.kind, .int .i64 d.n, .string d.name, .int .i64 d.stamp, .int .i64 d.lib, v]) W := by
  obtain ⟨q, q0, q1, q2, q3, q4, q5, qz⟩ := h
  simp [results, Tryz.results13, go_sem, h6, q0, q1, q2, q3, q4, q5]

theorem reSt_name (a b : Int) (d : Dat) : (reSt a b d).name = d.name := by obtain ⟨k, n, nm, st, lb, ks⟩ := d; rw [reSt]

set_option maxRecDepth 100000 in
set_option maxHeartbeats 3200000 in
theorem restamped_step (f : Nat) (s t : Int) (d : Dat) (a : Option Addr) (cap : Nat) (w : World) (hl : Dn w (f + 1) a d.kids) (hf : fewD d)
    (ih : ∀ (d' : Dat), d' ∈ d.kids → ∀ (a : Option Addr) (cap : Nat) (w : World), Dn w f a d'.kids → fewD d' → Calls Tryz.prog 13 #[dv d' a cap, .int .i64 s, .int .i64 t] w (ToldO (reSt s t d') w)) :
    Calls Tryz.prog 13 #[dv d a cap, .int .i64 s, .int .i64 t] w (ToldO (reSt s t d) w) := by
  obtain ⟨k, n, nm, st, lb, ks⟩ := d
  rw [fewD] at hf
  simp only at hl ih
  have hlen : ks.length * 72 ≤ 140737488355328 := hf.1
  have FL := hidd hf.2
  have HL := hidd hl
  have IH := hidd ih
  clear hl ih hf
  obtain ⟨st', hst'⟩ : ∃ st', st' = if k = 3 ∧ st = s then t else st := ⟨_, rfl⟩
  have e1 : reSt s t ⟨k, n, nm, st, lb, ks⟩ = ⟨k, n, nm, st', lb, ks.map (reSt s t)⟩ := by rw [reSt, reStL_map, hst']
  rw [e1]
  clear e1
  have S0 := hidd (RS.start w ⟨k, n, nm, st, lb, ks⟩ (.slice a ks.length cap) (reSt s t))
  have key : ∀ {P : Prop}, ((k == 3) = false → st' = st → P) → ((k == 3) = true → (st == s) = false → st' = st → P) → ((k == 3) = true → (st == s) = true → st' = t → P) → P := fun h1 h2 h3 => by
    by_cases hk : k = 3
    · by_cases hs : st = s
      · exact h3 (by simpa using hk) (by simpa using hs) (by rw [hst', if_pos ⟨hk, hs⟩])
      · exact h2 (by simpa using hk) (by simpa using hs) (by rw [hst', if_neg (fun h => hs h.2)])
    · exact h1 (by simpa using hk) (by rw [hst', if_neg (fun h => hk h.1)])
  clear hst'
  have S2 : Hid (st' = st → RS w ⟨k, n, nm, st', lb, ks⟩ (.slice a ks.length cap) (reSt s t) [] (.slice none 0 0) [] ((w.alloc (.cells #[.int .i64 k, .int .i64 n, .string nm, .int .i64 st, .int .i64 lb, .slice a ks.length cap] 28)).alloc (.cells #[.int .i64 0, .int .i64 0, .string ⟨#[]⟩, .int .i64 0, .int .i64 0, .slice none 0 0] 28))) := fun e => by rw [e]; exact S0.out
  have S3 : Hid (st' = t → RS w ⟨k, n, nm, st', lb, ks⟩ (.slice a ks.length cap) (reSt s t) [] (.slice none 0 0) [] ((w.alloc (.cells #[.int .i64 k, .int .i64 n, .string nm, .int .i64 t, .int .i64 lb, .slice a ks.length cap] 28)).alloc (.cells #[.int .i64 0, .int .i64 0, .string ⟨#[]⟩, .int .i64 0, .int .i64 0, .slice none 0 0] 28))) := fun e => by rw [e]; exact RS.start w ⟨k, n, nm, t, lb, ks⟩ (.slice a ks.length cap) (reSt s t)
  clear S0
  unfold dv
  refine key (fun hk3 e => ?_) (fun hk3 hst e => ?_) (fun hk3 hst e => ?_)
  all_goals
    clear key
    have E := hidd e
    clear e
    go_enter Tryz.func13, Tryz.ntmps13
    go_wp2_with fail
    go_loopw [7, 24] (fun v i wr => ∃ (j : Nat) (es : List (Dat × Option Addr × Nat)), j ≤ ks.length ∧ i = .int .i64 j ∧ Hid (RS w ⟨k, n, nm, st', lb, ks⟩ (.slice a ks.length cap) (reSt s t) (ks.take j) v es wr)) (fun _ i _ => ks.length - (intOf i).toNat)
    case atStart => exact ⟨0, [], Nat.zero_le _, rfl, by first | exact S2.out E.out | exact S3.out E.out⟩
    case round =>
      clear S2 S3
      obtain ⟨j, es, hj, rfl, HR⟩ := hrel
      have HES : Hid (es.length = j) := by
        show _ = _
        have := congrArg List.length HR.out.same
        simp at this
        omega
      have lo := HR.out.out.lt
      by_cases hlt : j < ks.length
      · obtain ⟨kid, hkid⟩ : ∃ kid, ks[j]? = some kid := ⟨ks[j], List.getElem?_eq_getElem hlt⟩
        have hne : ks ≠ [] := by intro e; rw [e] at hlt; simp at hlt
        obtain ⟨g', b, o, hg, ha, hbB, hall⟩ := HL.out.at hne
        subst ha
        obtain ⟨a', cap', k0, k1, k2, k3, k4, k5, hkn, hkc, hkk⟩ := hall j kid hkid
        have hg' : g' = f := by omega
        subst hg'
        have hc : ∀ q, wr.cell? ⟨b, q, none⟩ = w.cell? ⟨b, q, none⟩ := fun q => HR.out.old.cell (p := ⟨b, q, none⟩) hbB
        have j0 := (hc _).trans k0
        have j1 := (hc _).trans k1
        have j2 := (hc _).trans k2
        have j3 := (hc _).trans k3
        have j4 := (hc _).trans k4
        have j5 := (hc _).trans k5
        have H2 := hidd (HR.out.below ((Below.refl _ _).alloc (Nat.le_refl _) (.cells #[.int .i64 kid.kind, .int .i64 kid.n, .string kid.name, .int .i64 kid.stamp, .int .i64 kid.lib, .slice a' kid.kids.length cap'] 28)))
        have CA : Hid (∀ W, Below w.heap.size w W → Calls Tryz.prog 13 #[dv kid a' cap', .int .i64 s, .int .i64 t] W (ToldO (reSt s t kid) W)) := fun W hb => IH.out kid (List.mem_of_getElem? hkid) a' cap' W (Dn.lift hkk hb) (fewL_mem _ FL.out _ (List.mem_of_getElem? hkid))
        have TK : Hid ((ks.take (j + 1)).map (reSt s t) = (ks.take j).map (reSt s t) ++ [reSt s t kid]) := by
          show _ = _
          rw [List.take_add_one, hkid]
          simp
        have HN : Hid ((reSt s t kid).name.size ≤ maxLen) := by
          show _ ≤ _
          rw [reSt_name]
          exact hkn
        unfold dv at CA
        clear k0 k1 k2 k3 k4 k5 hall hkk hkid hc hg hkn hkc
        go_wp2_with fail
        refine (CA.out _ H2.out.old).mono ?_
        rintro e w2 ⟨hb2, a2, cap2, f2, rfl, hcap2, hdc2⟩
        have H3 := hidd (H2.out.below hb2)
        have hs2 : wr.heap.size + 1 ≤ w2.heap.size := by have := hb2.size; simpa using this
        generalize reSt s t kid = rk at TK HN hcap2 hdc2 CA
        have HD2 : Hid (rk.kids.length ≤ cap2 ∧ Dc (New wr w2) w2 f2 a2 rk.kids) := ⟨hcap2, Dc.stay (fun _ _ => rfl) (fun k hk => ⟨by have := hk.1; simp at this; omega, hk.2⟩) _ _ _ hdc2⟩
        clear hb2 hcap2 hdc2 CA H2
        obtain ⟨i0, hinf, hz0, hz1, hz2⟩ := info_parts infoDat
        unfold dv
        simp only
        go_wp2_with (at_builtin; refine wpList_append_where rfl _ _ 26 rfl (w.heap.size + 2) 28 i0 _ 6 72 Tryz.underlying26 hinf hz0 hz1 hz2 rfl (by decide) u7 es.length (flat es) rfl (by exact H3.out.row.own.alloc _) ⟨w2.heap.size, 0, none⟩ 1 1 [.int .i64 rk.kind, .int .i64 rk.n, .string rk.name, .int .i64 rk.stamp, .int .i64 rk.lib, .slice a2 rk.kids.length cap2] rfl rfl ?c1 ?c2 (by decide) ?c3 ?c4 ?c5 ?_)
        case c1 =>
          intro q u hq
          have hcell := World.cell?_alloc_mark w2 #[.int .i64 rk.kind, .int .i64 rk.n, .string rk.name, .int .i64 rk.stamp, .int .i64 rk.lib, .slice a2 rk.kids.length cap2] 28 (0, 0) q
          have hadd := addr_add w2.heap.size q
          rw [hadd, hcell]
          simpa using hq
        case c2 =>
          intro u hu
          simp at hu
          rcases hu with rfl | rfl | rfl | rfl | rfl | rfl <;> rfl
        case c3 => have := HES.out; unfold maxLen; omega
        case c4 => have := HES.out; omega
        case c5 => simp; omega
        intro v' w4 hown4 hg4 hw4
        have HROW : Hid (RowC (w.heap.size + 2) v' (es ++ [(rk, a2, cap2)]) w4) :=
          RowC.push (f := f2) (wr := wr) (w := w2) _ H3.out.row (by omega) (fun k hk => (HR.out.row.own.lt k hk).2) HD2.out.2 HN.out HD2.out.1 hown4 hg4 hw4
        have hrow : ∀ k, u7.ownBlock = some k → w.heap.size + 2 ≤ k := fun k hk => (H3.out.row.own.lt k hk).1
        have H4 : Hid (RS w ⟨k, n, nm, st', lb, ks⟩ (.slice (some ⟨b, o, none⟩) ks.length cap) (reSt s t) (ks.take (j + 1)) v' (es ++ [(rk, a2, cap2)]) w4) := by
          refine ⟨(H3.out.old.alloc (by omega) _).grown hg4 (by simp; omega) (fun k hk => by have := hrow k hk; omega), (H3.out.box.alloc _).grown hg4 (fun e => by have := hrow _ e.symm; omega), (H3.out.out.alloc _).grown hg4 (fun e => by have := hrow _ e.symm; omega), HROW.out, ?_⟩
          rw [TK.out, List.map_append, H3.out.same]
          rfl
        clear hown4 hg4 hw4 hrow HD2 HROW H3
        go_wp2_with fail
        go_roundw
        case rel => exact ⟨j + 1, _, by omega, by go_num, H4.out⟩
        case measure => simp [intOf]; omega
      · obtain rfl : j = ks.length := by omega
        obtain ⟨ao, cp, f', hv, hcp, hdc⟩ := HR.out.row.lie (by have := HES.out; omega)
        have e2 : es.map (·.1) = ks.map (reSt s t) := by
          have := HR.out.same
          rwa [List.take_length] at this
        rw [e2] at hv hcp hdc
        rw [List.length_map] at hv
        subst hv
        have HD := hidd hdc
        clear hdc e2
        obtain ⟨p, p0, p1, p2, p3, p4, p5, pz⟩ := HR.out.box
        obtain ⟨q, q0, q1, q2, q3, q4, q5, qz⟩ := HR.out.out
        simp only [zeroD, emS] at p0 p1 p2 p3 p4 p5 q0 q1 q2 q3 q4 q5
        go_wp2_with fail
        have N1 := hidd (HR.out.box.set5 (.slice ao ks.length cp))
        have hke : Keep w.heap.size wr (wr.setCell ⟨w.heap.size, 5, none⟩ (.slice ao ks.length cp)) := (Keep.refl _ _).setCell _ rfl _
        have N2 := hidd ((HR.out.out.keep hke (by omega)).store ⟨k, n, nm, st', lb, ks⟩ (.slice ao ks.length cp))
        clear p p0 p1 p2 p3 p4 p5 pz q q0 q1 q2 q3 q4 q5 qz
        refine bodyPost_ret (ret13 N2.out rfl) rfl ?_
        have hb5 := HR.out.old.setCell (p := ⟨w.heap.size, 5, none⟩) (Nat.le_refl _) (.slice ao ks.length cp)
        refine ⟨below_sixN hb5 (by omega) _ _ _ _ _ _, ao, cp, f', by simp [dv], hcp, ?_⟩
        have hh := six_heap (wr.setCell ⟨w.heap.size, 5, none⟩ (.slice ao ks.length cp)) (w.heap.size + 1) (.int .i64 k) (.int .i64 n) (.string nm) (.int .i64 st') (.int .i64 lb) (.slice ao ks.length cp)
        refine Dc.stay (fun b hb => ?_) (fun b hb => ?_) _ _ _ HD.out
        · exact (hh.1 b (by have := hb.1; omega)).trans (Below.heap_setCell _ _ _ _ (by have := hb.1; show b ≠ w.heap.size; omega))
        · refine ⟨by have := hb.1; omega, ?_⟩
          rw [hh.2]
          simpa [World.setCell] using hb.2

/-- ONE STAMP FOR ANOTHER. -/
theorem restamped_any (s t : Int) : ∀ (f : Nat) (d : Dat) (a : Option Addr) (cap : Nat) (w : World), Dn w f a d.kids → fewD d → Calls Tryz.prog 13 #[dv d a cap, .int .i64 s, .int .i64 t] w (ToldO (reSt s t d) w) := by
  intro f
  induction f with
  | zero =>
    intro d a cap w hl hf
    refine restamped_step 0 s t d a cap w (hl.upto 1) hf fun d' hd => ?_
    rw [show d.kids = [] from hl] at hd
    cases hd
  | succ f ih =>
    intro d a cap w hl hf
    exact restamped_step f s t d a cap w hl hf fun d' hd a cap w h1 h2 => ih d' a cap w h1 h2
end
end Go.Proofs.YtceapbliljiplaeGreatDoor
