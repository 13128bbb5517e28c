/- Chapter 5's laws: rows of data; a rule read. Chapter 5's laws: has no symbol that stamp? Chapter 5's laws: does a datum speak of a name? -/
import Derived.Test.YtgeedaabdonjcaeGreatDoorK40
import Derived.Test.YtgeedaabdonjcaeGreatDoorK41
namespace Go.Proofs.YtgeedaabdonjcaeGreatDoor
section
set_option linter.unusedVariables false
set_option linter.unusedSimpArgs false
open Go.RowKit Go.Maps Go.WideMaps

theorem Dn.upto {w : World} {f : Nat} {a : Option Addr} {ds : List Dat} (h : Dn w f a ds) (k : Nat) : Dn w (f + k) a ds := Dc.upto h k
theorem Dn.nil (w : World) (f : Nat) (a : Option Addr) : Dn w f a [] := Dc.nil _ _ _ _
/-- A row of data in a block of its own. -/
theorem Dn.row {w : World} {N F : Nat} (es : List (Dat × Option Addr × Nat)) (hN : w.heap[N]? = some (.cells (flat es).toArray 28 (0, 0))) (hl : es.length ≤ 9223372036854775807) (h : ∀ e ∈ es, e.1.name.size ≤ maxLen ∧ e.1.kids.length ≤ e.2.2 ∧ Dn w F e.2.1 e.1.kids) : Dn w (F + 1) (some ⟨N, 0, none⟩) (es.map (·.1)) := by
  refine ⟨by simpa using hl, Or.inr ⟨N, 0, rfl, (Array.getElem?_eq_some_iff.1 hN).1, fun i d hd => ?_⟩⟩
  rw [List.getElem?_map] at hd
  obtain ⟨e, he, rfl⟩ := Option.map_eq_some_iff.1 hd
  have hc : ∀ k u, k < 6 → [Value.int .i64 e.1.kind, .int .i64 e.1.n, .string e.1.name, .int .i64 e.1.stamp, .int .i64 e.1.lib, .slice e.2.1 e.1.kids.length e.2.2][k]? = some u → w.cell? ⟨N, 0 + i * 6 + k, none⟩ = some u := by
    intro k u hk hu
    have := flat_at es i he k hk
    simp [World.cell?, hN, this, hu]
  obtain ⟨h1, h2, h3⟩ := h e (List.mem_of_getElem? he)
  exact ⟨e.2.1, e.2.2, hc 0 _ (by decide) rfl, hc 1 _ (by decide) rfl, hc 2 _ (by decide) rfl, hc 3 _ (by decide) rfl, hc 4 _ (by decide) rfl, hc 5 _ (by decide) rfl, h1, h2, h3⟩

/-- Equal, of data that lie in the world at hand. -/
theorem Equal_here (f g : Nat) (d e : Dat) (a a2 : Option Addr) (cap cap2 : Nat) (w : World) (hl : Dn w f a d.kids) (hm : Dn w g a2 e.kids) (h : bareD d = bareD e) : Calls Tryz.prog 12 #[dv d a cap, dv e a2 cap2] w (Yes w) :=
  Equal_bare w.heap.size (f + 1) (g + 1) d e a a2 cap cap2 w (Nat.le_refl _) hl.lc.1 hm.lc.1 h

theorem smD_list {l : List Dat} (h : ∀ d ∈ l, smD d) : smD (listD l) := by
  have aux : ∀ (l : List Dat), (∀ d ∈ l, smD d) → smL l := by
    intro l
    induction l with
    | nil => intro _; rw [smL]; trivial
    | cons x r ih => intro h; rw [smL]; exact ⟨h x (by simp), ih fun d hd => h d (by simp [hd])⟩
  unfold listD
  rw [smD]
  exact ⟨fun h => by simp at h, fun _ => aux l h⟩
theorem smD_num (n : Int) : smD (numD n) := by
  unfold numD
  rw [smD]
  exact ⟨fun h => by simp at h, fun h => by simp at h⟩
theorem smD_sym {s : ByteArray} (h : s.size ≤ 281474976710656) : smD (symD s) := by
  unfold symD
  rw [smD]
  exact ⟨fun _ => h, fun h => by simp at h⟩

def pS : Dat := listD [symD mS, symD xS]
def pE : Dat := listD [symD mS, symD xS, symD dotsS]
def tE : Dat := listD [symD xS, symD dotsS]
def tM : Dat := listD [symD lS, listD [symD gS, symD xS], symD dotsS]
theorem readPS : readL (⟨#[40, 109, 32, 120, 41]⟩ : ByteArray).data.toList = .inr [pS] := by kernel_rfl
theorem readX : readL (⟨#[120]⟩ : ByteArray).data.toList = .inr [symD xS] := by kernel_rfl
theorem readPE : readL (⟨#[40, 109, 32, 120, 32, 46, 46, 46, 41]⟩ : ByteArray).data.toList = .inr [pE] := by kernel_rfl
theorem readTE : readL (⟨#[40, 120, 32, 46, 46, 46, 41]⟩ : ByteArray).data.toList = .inr [tE] := by kernel_rfl
theorem readTM : readL (⟨#[40, 108, 105, 115, 116, 32, 40, 103, 32, 120, 41, 32, 46, 46, 46, 41]⟩ : ByteArray).data.toList = .inr [tM] := by kernel_rfl
theorem smSelf : smR selfR := by
  intro p t h
  simp [selfR] at h
  obtain ⟨rfl, rfl⟩ := h
  exact smD_sym (by decide)
theorem smEach : smR eachR := by
  intro p t h
  simp [eachR] at h
  obtain ⟨rfl, rfl⟩ := h
  exact smD_list (by intro d hd; simp at hd; rcases hd with rfl | rfl <;> exact smD_sym (by decide))
theorem smMany : smR manyR := by
  intro p t h
  simp [manyR] at h
  obtain ⟨rfl, rfl⟩ := h
  refine smD_list ?_
  intro d hd
  simp at hd
  rcases hd with rfl | rfl | rfl
  · exact smD_sym (by decide)
  · exact smD_list (by intro d hd; simp at hd; rcases hd with rfl | rfl <;> exact smD_sym (by decide))
  · exact smD_sym (by decide)
end
section
set_option linter.unusedVariables false
set_option linter.unusedSimpArgs false
open Go.RowKit Go.Maps Go.WideMaps

theorem noStL_all (s : Int) : ∀ (l : List Dat), noStL s l = l.all (noSt s)
  | [] => by rw [noStL]; rfl
  | d :: r => by rw [noStL, noStL_all s r]; rfl

theorem all_take_succ {α : Type} {p : α → Bool} {l : List α} {j : Nat} {x : α} (h : l[j]? = some x) : (l.take (j + 1)).all p = ((l.take j).all p && p x) := by
  rw [List.take_add_one, h]
  simp

/-- What without keeps: the datum's box. -/
structure BX (w : World) (D : Array Value) (T : TypeId) (W : World) : Prop where
  old : Below w.heap.size w W
  b0 : W.heap[w.heap.size]? = some (.cells D T (0, 0))
theorem BX.below {w W W' : World} {D : Array Value} {T : TypeId} (h : BX w D T W) (hb : Below W.heap.size W W') : BX w D T W' :=
  ⟨h.old.trans (hb.mono h.old.size), (hb.block _ (Array.getElem?_eq_some_iff.1 h.b0).1).trans h.b0⟩
theorem BX.cell {w W : World} {D : Array Value} {T : TypeId} (h : BX w D T W) (q : Nat) : W.cell? ⟨w.heap.size, q, none⟩ = D[q]? := by simp [World.cell?, h.b0]
theorem BX.start (w : World) (D : Array Value) (T : TypeId) : BX w D T (w.alloc (.cells D T)) := ⟨(Below.refl _ _).alloc (Nat.le_refl _) _, World.alloc_heap_new w _⟩

set_option maxRecDepth 100000 in
set_option maxHeartbeats 3200000 in
theorem without_yes (s : Int) (d : Dat) (a : Option Addr) (cap : Nat) (w : World) (h3 : d.kind = 3) (hs : d.stamp = s) :
    Calls Tryz.prog 10 #[dv d a cap, .int .i64 s] w fun e w' => e = .returned (.bool (noSt s d)) ∧ Below w.heap.size w w' := by
  obtain ⟨k, n, nm, st, lb, ks⟩ := d
  simp only at h3 hs
  subst h3 hs
  have e1 : noSt st ⟨3, n, nm, st, lb, ks⟩ = false := by rw [noSt, if_pos rfl]; simp
  rw [e1]
  have H0 := hidd (BX.start w #[.int .i64 3, .int .i64 n, .string nm, .int .i64 st, .int .i64 lb, .slice a ks.length cap] 28)
  clear e1
  unfold dv
  go_enter Tryz.func10, Tryz.ntmps10
  go_wp2_with fail
  go_ret
  exact ⟨rfl, H0.out.old⟩

set_option maxRecDepth 100000 in
set_option maxHeartbeats 3200000 in
theorem without_else (B f : Nat) (s : Int) (d : Dat) (a : Option Addr) (cap : Nat) (w : World) (hl : Lies B w (f + 1) a d.kids) (hB : B ≤ w.heap.size) (h4 : d.kind ≠ 4) (h3 : ¬ (d.kind = 3 ∧ d.stamp = s)) :
    Calls Tryz.prog 10 #[dv d a cap, .int .i64 s] w fun e w' => e = .returned (.bool (noSt s d)) ∧ Below w.heap.size w w' := by
  have hlen := hl.len
  obtain ⟨k, n, nm, st, lb, ks⟩ := d
  simp only at h3 h4 hl hlen
  have e1 : noSt s ⟨k, n, nm, st, lb, ks⟩ = true := by
    rw [noSt]
    by_cases hk : k = 3
    · rw [if_pos hk]
      have : st ≠ s := fun e => h3 ⟨hk, e⟩
      simp [this]
    · rw [if_neg hk, if_neg h4]
  rw [e1]
  clear e1
  have H0 := hidd (BX.start w #[.int .i64 k, .int .i64 n, .string nm, .int .i64 st, .int .i64 lb, .slice a ks.length cap] 28)
  have HL := hidd hl
  have h4' : (k == 4) = false := by simpa using h4
  have h3a : k ≠ 3 ∨ st ≠ s := by
    by_cases hk : k = 3
    · exact .inr fun e => h3 ⟨hk, e⟩
    · exact .inl hk
  clear h3 hl
  unfold dv
  have key : ∀ {P : Prop}, ((k == 3) = false → P) → ((k == 3) = true → (st == s) = false → P) → P := fun h1 h2 => by
    by_cases hk : k = 3
    · rcases h3a with h | h
      · exact absurd hk h
      · exact h2 (by simpa using hk) (by simpa using h)
    · exact h1 (by simpa using hk)
  refine key (fun hk3 => ?_) (fun hk3 hst => ?_)
  all_goals
    clear key h3a h4
    go_enter Tryz.func10, Tryz.ntmps10
    go_wp2_with fail
    go_loopw [19] (fun i wr => ∃ j : Nat, j ≤ ks.length ∧ i = .int .i64 j ∧ Hid (BX w #[.int .i64 k, .int .i64 n, .string nm, .int .i64 st, .int .i64 lb, .slice a ks.length cap] 28 wr)) (fun i _ => ks.length - (intOf i).toNat)
    case atStart => exact ⟨0, Nat.zero_le _, rfl, H0.out⟩
    case round =>
      obtain ⟨j, hj, rfl, HR⟩ := hrel
      by_cases hlt : j < ks.length
      · obtain ⟨kid, hkid⟩ : ∃ kid, ks[j]? = some kid := ⟨ks[j], List.getElem?_eq_getElem hlt⟩
        have hne : ks ≠ [] := by intro e; rw [e] at hlt; simp at hlt
        obtain ⟨g', b, o, hg, ha, hbB, hall⟩ := HL.out.at hne
        subst ha
        obtain ⟨a', cap', k0, k1, k2, k3, k4, k5, hkn, hkk⟩ := hall j kid hkid
        have hc : ∀ q, wr.cell? ⟨b, q, none⟩ = w.cell? ⟨b, q, none⟩ := fun q => HR.out.old.cell (p := ⟨b, q, none⟩) (Nat.lt_of_lt_of_le hbB hB)
        have j0 := (hc _).trans k0
        have j1 := (hc _).trans k1
        have j2 := (hc _).trans k2
        have j3 := (hc _).trans k3
        have j4 := (hc _).trans k4
        have j5 := (hc _).trans k5
        have H2 := hidd (HR.out.below ((Below.refl _ _).alloc (Nat.le_refl _) (.cells #[.int .i64 kid.kind, .int .i64 kid.n, .string kid.name, .int .i64 kid.stamp, .int .i64 kid.lib, .slice a' kid.kids.length cap'] 28)))
        have c0 := H2.out.cell 0
        simp at c0
        clear k0 k1 k2 k3 k4 k5 hall hkk hkid hc hg
        go_wp2_with fail
        go_roundw
        case rel => exact ⟨j + 1, by omega, by go_num, H2.out⟩
        case measure => simp [intOf]; omega
      · obtain rfl : j = ks.length := by omega
        go_wp2_with fail
        go_ret
        exact ⟨rfl, HR.out.old⟩

set_option maxRecDepth 100000 in
set_option maxHeartbeats 3200000 in
theorem without_list (B f : Nat) (s : Int) (d : Dat) (a : Option Addr) (cap : Nat) (w : World) (hl : Lies B w (f + 1) a d.kids) (hB : B ≤ w.heap.size) (h4 : d.kind = 4)
    (ih : ∀ (d' : Dat), d' ∈ d.kids → ∀ (a : Option Addr) (cap : Nat) (w : World), Lies B w f a d'.kids → B ≤ w.heap.size → Calls Tryz.prog 10 #[dv d' a cap, .int .i64 s] w fun e w' => e = .returned (.bool (noSt s d')) ∧ Below w.heap.size w w') :
    Calls Tryz.prog 10 #[dv d a cap, .int .i64 s] w fun e w' => e = .returned (.bool (noSt s d)) ∧ Below w.heap.size w w' := by
  have hlen := hl.len
  obtain ⟨k, n, nm, st, lb, ks⟩ := d
  simp only at h4 hl hlen ih
  subst h4
  have e1 : noSt s ⟨4, n, nm, st, lb, ks⟩ = ks.all (noSt s) := by rw [noSt, if_neg (by decide), if_pos rfl, noStL_all]
  rw [e1]
  clear e1
  have H0 := hidd (BX.start w #[.int .i64 4, .int .i64 n, .string nm, .int .i64 st, .int .i64 lb, .slice a ks.length cap] 28)
  have HL := hidd hl
  have IH := hidd ih
  clear hl ih
  unfold dv
  go_enter Tryz.func10, Tryz.ntmps10
  go_wp2_with fail
  go_loopw [19] (fun i wr => ∃ j : Nat, j ≤ ks.length ∧ i = .int .i64 j ∧ Hid (BX w #[.int .i64 4, .int .i64 n, .string nm, .int .i64 st, .int .i64 lb, .slice a ks.length cap] 28 wr ∧ (ks.take j).all (noSt s) = true)) (fun i _ => ks.length - (intOf i).toNat)
  case atStart => exact ⟨0, Nat.zero_le _, rfl, H0.out, rfl⟩
  case round =>
    obtain ⟨j, hj, rfl, HR⟩ := hrel
    by_cases hlt : j < ks.length
    · obtain ⟨kid, hkid⟩ : ∃ kid, ks[j]? = some kid := ⟨ks[j], List.getElem?_eq_getElem hlt⟩
      have hne : ks ≠ [] := by intro e; rw [e] at hlt; simp at hlt
      obtain ⟨g', b, o, hg, ha, hbB, hall⟩ := HL.out.at hne
      subst ha
      obtain ⟨a', cap', k0, k1, k2, k3, k4, k5, hkn, hkk⟩ := hall j kid hkid
      have hg' : g' = f := by omega
      subst hg'
      have hc : ∀ q, wr.cell? ⟨b, q, none⟩ = w.cell? ⟨b, q, none⟩ := fun q => HR.out.1.old.cell (p := ⟨b, q, none⟩) (Nat.lt_of_lt_of_le hbB hB)
      have j0 := (hc _).trans k0
      have j1 := (hc _).trans k1
      have j2 := (hc _).trans k2
      have j3 := (hc _).trans k3
      have j4 := (hc _).trans k4
      have j5 := (hc _).trans k5
      have H2 := hidd (HR.out.1.below ((Below.refl _ _).alloc (Nat.le_refl _) (.cells #[.int .i64 kid.kind, .int .i64 kid.n, .string kid.name, .int .i64 kid.stamp, .int .i64 kid.lib, .slice a' kid.kids.length cap'] 28)))
      have c0 := H2.out.cell 0
      simp at c0
      have CA : Hid (∀ W, Below w.heap.size w W → Calls Tryz.prog 10 #[dv kid a' cap', .int .i64 s] W fun e w' => e = .returned (.bool (noSt s kid)) ∧ Below W.heap.size W w') := fun W hb => IH.out kid (List.mem_of_getElem? hkid) a' cap' W (hkk.below (hb.mono hB)) (Nat.le_trans hB hb.size)
      have TK : Hid ((ks.take (j + 1)).all (noSt s) = noSt s kid) := by
        show _ = _
        rw [all_take_succ hkid, HR.out.2]
        rfl
      have FA : Hid (noSt s kid = false → ks.all (noSt s) = false) := fun h => by
        rw [List.all_eq_false]
        exact ⟨kid, List.mem_of_getElem? hkid, by simp [h]⟩
      unfold dv at CA
      clear k0 k1 k2 k3 k4 k5 hall hkk hkid hc hg
      generalize noSt s kid = y at CA TK FA
      go_wp2_with fail
      refine (CA.out _ H2.out.old).mono ?_
      rintro e w2 ⟨rfl, hb2⟩
      have H3 := hidd (H2.out.below hb2)
      clear hb2 c0
      cases y with
      | true =>
        go_wp2_with fail
        go_roundw
        case rel => exact ⟨j + 1, by omega, by go_num, H3.out, TK.out⟩
        case measure => simp [intOf]; omega
      | false =>
        go_wp2_with fail
        go_ret
        refine ⟨?_, H3.out.old⟩
        rw [FA.out trivial]
        rfl
    · obtain rfl : j = ks.length := by omega
      have HF : Hid (ks.all (noSt s) = true) := by
        have := HR.out.2
        rw [List.take_length] at this
        exact this
      go_wp2_with fail
      go_ret
      refine ⟨?_, HR.out.1.old⟩
      rw [HF.out]
      rfl

/-- HAS NO SYMBOL THAT STAMP? -/
theorem without_any (B : Nat) (s : Int) : ∀ (f : Nat) (d : Dat) (a : Option Addr) (cap : Nat) (w : World), Lies B w f a d.kids → B ≤ w.heap.size →
    Calls Tryz.prog 10 #[dv d a cap, .int .i64 s] w fun e w' => e = .returned (.bool (noSt s d)) ∧ Below w.heap.size w w' := by
  intro f
  induction f with
  | zero =>
    intro d a cap w hl hB
    by_cases h3 : d.kind = 3 ∧ d.stamp = s
    · exact without_yes s d a cap w h3.1 h3.2
    · by_cases h4 : d.kind = 4
      · refine without_list B 0 s d a cap w (Lies.more 0 a _ hl) hB h4 fun d' hd => ?_
        rw [show d.kids = [] from hl] at hd
        cases hd
      · exact without_else B 0 s d a cap w (Lies.more 0 a _ hl) hB h4 h3
  | succ f ih =>
    intro d a cap w hl hB
    by_cases h3 : d.kind = 3 ∧ d.stamp = s
    · exact without_yes s d a cap w h3.1 h3.2
    · by_cases h4 : d.kind = 4
      · exact without_list B f s d a cap w hl hB h4 fun d' _ a cap w hl hB => ih d' a cap w hl hB
      · exact without_else B f s d a cap w hl hB h4 h3
end
section
set_option linter.unusedVariables false
set_option linter.unusedSimpArgs false
open Go.RowKit Go.Maps Go.WideMaps

theorem spkL_any (s : ByteArray) : ∀ (l : List Dat), spkL s l = l.any (spkD s)
  | [] => by rw [spkL]; rfl
  | d :: r => by rw [spkL, spkL_any s r]; rfl
theorem any_take_succ {α : Type} {p : α → Bool} {l : List α} {j : Nat} {x : α} (h : l[j]? = some x) : (l.take (j + 1)).any p = ((l.take j).any p || p x) := by
  rw [List.take_add_one, h]
  simp

set_option maxRecDepth 100000 in
set_option maxHeartbeats 3200000 in
theorem speaks_yes (s : ByteArray) (d : Dat) (a : Option Addr) (cap : Nat) (w : World) (h3 : d.kind = 3) (hs : d.name = s) :
    Calls Tryz.prog 16 #[dv d a cap, .string s] w fun e w' => e = .returned (.bool (spkD s d)) ∧ Below w.heap.size w w' := by
  obtain ⟨k, n, nm, st, lb, ks⟩ := d
  simp only at h3 hs
  subst h3 hs
  have e1 : spkD nm ⟨3, n, nm, st, lb, ks⟩ = true := by rw [spkD, if_pos rfl]; simp
  have hq : (nm.toList == nm.toList) = true := by simp
  rw [e1]
  have H0 := hidd (BX.start w #[.int .i64 3, .int .i64 n, .string nm, .int .i64 st, .int .i64 lb, .slice a ks.length cap] 28)
  clear e1
  unfold dv
  go_enter Tryz.func16, Tryz.ntmps16
  go_wp2_with fail
  go_ret
  exact ⟨rfl, H0.out.old⟩

set_option maxRecDepth 100000 in
set_option maxHeartbeats 3200000 in
theorem speaks_else (B f : Nat) (s : ByteArray) (d : Dat) (a : Option Addr) (cap : Nat) (w : World) (hl : Lies B w (f + 1) a d.kids) (hB : B ≤ w.heap.size) (h4 : d.kind ≠ 4) (h3 : ¬ (d.kind = 3 ∧ d.name = s)) :
    Calls Tryz.prog 16 #[dv d a cap, .string s] w fun e w' => e = .returned (.bool (spkD s d)) ∧ Below w.heap.size w w' := by
  have hlen := hl.len
  obtain ⟨k, n, nm, st, lb, ks⟩ := d
  simp only at h3 h4 hl hlen
  have e1 : spkD s ⟨k, n, nm, st, lb, ks⟩ = false := by
    rw [spkD]
    by_cases hk : k = 3
    · rw [if_pos hk]
      have : nm ≠ s := fun e => h3 ⟨hk, e⟩
      simp [this]
    · rw [if_neg hk, if_neg h4]
  rw [e1]
  clear e1
  have H0 := hidd (BX.start w #[.int .i64 k, .int .i64 n, .string nm, .int .i64 st, .int .i64 lb, .slice a ks.length cap] 28)
  have HL := hidd hl
  have h4' : (k == 4) = false := by simpa using h4
  have h3a : k ≠ 3 ∨ nm ≠ s := by
    by_cases hk : k = 3
    · exact .inr fun e => h3 ⟨hk, e⟩
    · exact .inl hk
  clear h3 hl
  unfold dv
  have key : ∀ {P : Prop}, ((k == 3) = false → P) → ((k == 3) = true → (nm.toList == s.toList) = false → P) → P := fun h1 h2 => by
    by_cases hk : k = 3
    · rcases h3a with h | h
      · exact absurd hk h
      · exact h2 (by simpa using hk) (beqS_ne h)
    · exact h1 (by simpa using hk)
  refine key (fun hk3 => ?_) (fun hk3 hst => ?_)
  all_goals
    clear key h3a h4
    go_enter Tryz.func16, Tryz.ntmps16
    go_wp2_with fail
    go_loopw [19] (fun i wr => ∃ j : Nat, j ≤ ks.length ∧ i = .int .i64 j ∧ Hid (BX w #[.int .i64 k, .int .i64 n, .string nm, .int .i64 st, .int .i64 lb, .slice a ks.length cap] 28 wr)) (fun i _ => ks.length - (intOf i).toNat)
    case atStart => exact ⟨0, Nat.zero_le _, rfl, H0.out⟩
    case round =>
      obtain ⟨j, hj, rfl, HR⟩ := hrel
      by_cases hlt : j < ks.length
      · obtain ⟨kid, hkid⟩ : ∃ kid, ks[j]? = some kid := ⟨ks[j], List.getElem?_eq_getElem hlt⟩
        have hne : ks ≠ [] := by intro e; rw [e] at hlt; simp at hlt
        obtain ⟨g', b, o, hg, ha, hbB, hall⟩ := HL.out.at hne
        subst ha
        obtain ⟨a', cap', k0, k1, k2, k3, k4, k5, hkn, hkk⟩ := hall j kid hkid
        have hc : ∀ q, wr.cell? ⟨b, q, none⟩ = w.cell? ⟨b, q, none⟩ := fun q => HR.out.old.cell (p := ⟨b, q, none⟩) (Nat.lt_of_lt_of_le hbB hB)
        have j0 := (hc _).trans k0
        have j1 := (hc _).trans k1
        have j2 := (hc _).trans k2
        have j3 := (hc _).trans k3
        have j4 := (hc _).trans k4
        have j5 := (hc _).trans k5
        have H2 := hidd (HR.out.below ((Below.refl _ _).alloc (Nat.le_refl _) (.cells #[.int .i64 kid.kind, .int .i64 kid.n, .string kid.name, .int .i64 kid.stamp, .int .i64 kid.lib, .slice a' kid.kids.length cap'] 28)))
        have c0 := H2.out.cell 0
        simp at c0
        clear k0 k1 k2 k3 k4 k5 hall hkk hkid hc hg
        go_wp2_with fail
        go_roundw
        case rel => exact ⟨j + 1, by omega, by go_num, H2.out⟩
        case measure => simp [intOf]; omega
      · obtain rfl : j = ks.length := by omega
        go_wp2_with fail
        go_ret
        exact ⟨rfl, HR.out.old⟩

set_option maxRecDepth 100000 in
set_option maxHeartbeats 3200000 in
theorem speaks_list (B f : Nat) (s : ByteArray) (d : Dat) (a : Option Addr) (cap : Nat) (w : World) (hl : Lies B w (f + 1) a d.kids) (hB : B ≤ w.heap.size) (h4 : d.kind = 4)
    (ih : ∀ (d' : Dat), d' ∈ d.kids → ∀ (a : Option Addr) (cap : Nat) (w : World), Lies B w f a d'.kids → B ≤ w.heap.size → Calls Tryz.prog 16 #[dv d' a cap, .string s] w fun e w' => e = .returned (.bool (spkD s d')) ∧ Below w.heap.size w w') :
    Calls Tryz.prog 16 #[dv d a cap, .string s] w fun e w' => e = .returned (.bool (spkD s d)) ∧ Below w.heap.size w w' := by
  have hlen := hl.len
  obtain ⟨k, n, nm, st, lb, ks⟩ := d
  simp only at h4 hl hlen ih
  subst h4
  have e1 : spkD s ⟨4, n, nm, st, lb, ks⟩ = ks.any (spkD s) := by rw [spkD, if_neg (by decide), if_pos rfl, spkL_any]
  rw [e1]
  clear e1
  have H0 := hidd (BX.start w #[.int .i64 4, .int .i64 n, .string nm, .int .i64 st, .int .i64 lb, .slice a ks.length cap] 28)
  have HL := hidd hl
  have IH := hidd ih
  clear hl ih
  unfold dv
  go_enter Tryz.func16, Tryz.ntmps16
  go_wp2_with fail
  go_loopw [19] (fun i wr => ∃ j : Nat, j ≤ ks.length ∧ i = .int .i64 j ∧ Hid (BX w #[.int .i64 4, .int .i64 n, .string nm, .int .i64 st, .int .i64 lb, .slice a ks.length cap] 28 wr ∧ (ks.take j).any (spkD s) = false)) (fun i _ => ks.length - (intOf i).toNat)
  case atStart => exact ⟨0, Nat.zero_le _, rfl, H0.out, rfl⟩
  case round =>
    obtain ⟨j, hj, rfl, HR⟩ := hrel
    by_cases hlt : j < ks.length
    · obtain ⟨kid, hkid⟩ : ∃ kid, ks[j]? = some kid := ⟨ks[j], List.getElem?_eq_getElem hlt⟩
      have hne : ks ≠ [] := by intro e; rw [e] at hlt; simp at hlt
      obtain ⟨g', b, o, hg, ha, hbB, hall⟩ := HL.out.at hne
      subst ha
      obtain ⟨a', cap', k0, k1, k2, k3, k4, k5, hkn, hkk⟩ := hall j kid hkid
      have hg' : g' = f := by omega
      subst hg'
      have hc : ∀ q, wr.cell? ⟨b, q, none⟩ = w.cell? ⟨b, q, none⟩ := fun q => HR.out.1.old.cell (p := ⟨b, q, none⟩) (Nat.lt_of_lt_of_le hbB hB)
      have j0 := (hc _).trans k0
      have j1 := (hc _).trans k1
      have j2 := (hc _).trans k2
      have j3 := (hc _).trans k3
      have j4 := (hc _).trans k4
      have j5 := (hc _).trans k5
      have H2 := hidd (HR.out.1.below ((Below.refl _ _).alloc (Nat.le_refl _) (.cells #[.int .i64 kid.kind, .int .i64 kid.n, .string kid.name, .int .i64 kid.stamp, .int .i64 kid.lib, .slice a' kid.kids.length cap'] 28)))
      have c0 := H2.out.cell 0
      simp at c0
      have CA : Hid (∀ W, Below w.heap.size w W → Calls Tryz.prog 16 #[dv kid a' cap', .string s] W fun e w' => e = .returned (.bool (spkD s kid)) ∧ Below W.heap.size W w') := fun W hb => IH.out kid (List.mem_of_getElem? hkid) a' cap' W (hkk.below (hb.mono hB)) (Nat.le_trans hB hb.size)
      have TK : Hid ((ks.take (j + 1)).any (spkD s) = spkD s kid) := by
        show _ = _
        rw [any_take_succ hkid, HR.out.2]
        rfl
      have FA : Hid (spkD s kid = true → ks.any (spkD s) = true) := fun h => by
        rw [List.any_eq_true]
        exact ⟨kid, List.mem_of_getElem? hkid, h⟩
      unfold dv at CA
      clear k0 k1 k2 k3 k4 k5 hall hkk hkid hc hg
      generalize spkD s kid = y at CA TK FA
      go_wp2_with fail
      refine (CA.out _ H2.out.old).mono ?_
      rintro e w2 ⟨rfl, hb2⟩
      have H3 := hidd (H2.out.below hb2)
      clear hb2 c0
      cases y with
      | false =>
        go_wp2_with fail
        go_roundw
        case rel => exact ⟨j + 1, by omega, by go_num, H3.out, TK.out⟩
        case measure => simp [intOf]; omega
      | true =>
        go_wp2_with fail
        go_ret
        refine ⟨?_, H3.out.old⟩
        rw [FA.out trivial]
        rfl
    · obtain rfl : j = ks.length := by omega
      have HF : Hid (ks.any (spkD s) = false) := by
        have := HR.out.2
        rw [List.take_length] at this
        exact this
      go_wp2_with fail
      go_ret
      refine ⟨?_, HR.out.1.old⟩
      rw [HF.out]
      rfl

/-- HAS NO SYMBOL THAT STAMP? -/
theorem speaks_any (B : Nat) (s : ByteArray) : ∀ (f : Nat) (d : Dat) (a : Option Addr) (cap : Nat) (w : World), Lies B w f a d.kids → B ≤ w.heap.size →
    Calls Tryz.prog 16 #[dv d a cap, .string s] w fun e w' => e = .returned (.bool (spkD s d)) ∧ Below w.heap.size w w' := by
  intro f
  induction f with
  | zero =>
    intro d a cap w hl hB
    by_cases h3 : d.kind = 3 ∧ d.name = s
    · exact speaks_yes s d a cap w h3.1 h3.2
    · by_cases h4 : d.kind = 4
      · refine speaks_list B 0 s d a cap w (Lies.more 0 a _ hl) hB h4 fun d' hd => ?_
        rw [show d.kids = [] from hl] at hd
        cases hd
      · exact speaks_else B 0 s d a cap w (Lies.more 0 a _ hl) hB h4 h3
  | succ f ih =>
    intro d a cap w hl hB
    by_cases h3 : d.kind = 3 ∧ d.name = s
    · exact speaks_yes s d a cap w h3.1 h3.2
    · by_cases h4 : d.kind = 4
      · exact speaks_list B f s d a cap w hl hB h4 fun d' _ a cap w hl hB => ih d' a cap w hl hB
      · exact speaks_else B f s d a cap w hl hB h4 h3
end
end Go.Proofs.YtgeedaabdonjcaeGreatDoor
