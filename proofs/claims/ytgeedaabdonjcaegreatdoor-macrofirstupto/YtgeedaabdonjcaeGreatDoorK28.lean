/- Package rule set: a symbol of a pattern, held against a datum. Package rule set: a list of a pattern, parted at its dots. -/
import Derived.BigQuiet
import Derived.Deep.QuietTactic
import Derived.Deep.RegionHeldLaw
import Derived.Test.YtgeedaabdonjcaeGreatDoorK19
namespace Go.Proofs.YtgeedaabdonjcaeGreatDoor
section
set_option linter.unusedVariables false
set_option linter.unusedSimpArgs false
open Go.RowKit Go.Maps Go.WideMaps

theorem sixNews (w : World) (k n : Int) (nm : ByteArray) (st lb : Int) (sl : Value) : ∀ (q : Nat) (u : Value), ([.int .i64 k, .int .i64 n, .string nm, .int .i64 st, .int .i64 lb, sl] : List Value)[q]? = some u → (w.alloc (.cells #[.int .i64 k, .int .i64 n, .string nm, .int .i64 st, .int .i64 lb, sl] 28)).cell? ((⟨w.heap.size, 0, none⟩ : Addr).add q) = some u := by
  intro q u hq
  have hcell := World.cell?_alloc_mark w #[.int .i64 k, .int .i64 n, .string nm, .int .i64 st, .int .i64 lb, sl] 28 (0, 0) q
  have hadd : (⟨w.heap.size, 0, none⟩ : Addr).add q = ⟨w.heap.size, q, none⟩ := by unfold Addr.add; split <;> simp_all
  rw [hadd, hcell]
  simpa using hq
theorem sixOne (k n : Int) (nm : ByteArray) (st lb : Int) (a : Option Addr) (ln : Nat) (cap : Nat) : ∀ u ∈ ([.int .i64 k, .int .i64 n, .string nm, .int .i64 st, .int .i64 lb, .slice a ln cap] : List Value), u.oneCell' = true := by
  intro u hu
  simp at hu
  rcases hu with rfl | rfl | rfl | rfl | rfl | rfl <;> rfl

/-- A fit as a value. -/
def fitv (lb mb : Nat) : Value := .agg #[.map (some lb), .map (some mb)]

/-- What is promised of what holds a pattern against a form. -/
def ToldF (mb B g L : Nat) (o : Nat → Prop) (r : Option (ByteArray → List Dat)) (w : World) (e : Ending) (w' : World) : Prop :=
  ∃ o', Fr mb o o' w w' ∧ match r with
    | none => e = .returned (.bool false)
    | some m' => e = .returned (.bool true) ∧ Met mb B g L m' o' w'

/-- The cells of a datum. -/
def one6 (d : Dat) (a : Option Addr) (cap : Nat) : Array Value := #[.int .i64 d.kind, .int .i64 d.n, .string d.name, .int .i64 d.stamp, .int .i64 d.lib, .slice a d.kids.length cap]

/-- Three boxes: a fit, a thing of a pattern, a datum. -/
structure B3 (w : World) (F P D : Array Value) (W : World) : Prop where
  old : Below w.heap.size w W
  b0 : W.heap[w.heap.size]? = some (.cells F 71 (0, 0))
  b1 : W.heap[w.heap.size + 1]? = some (.cells P 28 (0, 0))
  b2 : W.heap[w.heap.size + 1 + 1]? = some (.cells D 28 (0, 0))
section
variable {w W W' : World} {F P D : Array Value}
theorem B3.size (h : B3 w F P D W) : w.heap.size + 1 + 1 < W.heap.size := (Array.getElem?_eq_some_iff.1 h.b2).1
theorem B3.start (w : World) (F P D : Array Value) : B3 w F P D (((w.alloc (.cells F 71)).alloc (.cells P 28)).alloc (.cells D 28)) := by
  have a0 := fun (u : World) (o : Obj) (k : Nat) (h : k < u.heap.size) => Below.heap_alloc u o k h
  have n0 := fun (u : World) (o : Obj) => World.alloc_heap_new u o
  refine ⟨(((Below.refl _ _).alloc (Nat.le_refl _) _).alloc (by simp only [World.size_alloc]; omega) _).alloc (by simp only [World.size_alloc]; omega) _, ?_, ?_, ?_⟩
  · rw [a0 _ _ _ (by simp only [World.size_alloc]; omega), a0 _ _ _ (by simp only [World.size_alloc]; omega)]
    exact n0 w _
  · rw [a0 _ _ _ (by simp only [World.size_alloc]; omega)]
    have := n0 (w.alloc (.cells F 71)) (.cells P 28)
    rwa [World.size_alloc] at this
  · have := n0 ((w.alloc (.cells F 71)).alloc (.cells P 28)) (.cells D 28)
    rwa [World.size_alloc, World.size_alloc] at this
theorem B3.below (h : B3 w F P D W) (hb : Below W.heap.size W W') : B3 w F P D W' := by
  have := h.size
  exact ⟨h.old.trans (hb.mono h.old.size), (hb.block _ (by omega)).trans h.b0, (hb.block _ (by omega)).trans h.b1, (hb.block _ (by omega)).trans h.b2⟩
theorem B3.cell0 (h : B3 w F P D W) (q : Nat) : W.cell? ⟨w.heap.size, q, none⟩ = F[q]? := by simp [World.cell?, h.b0]
theorem B3.cell1 (h : B3 w F P D W) (q : Nat) : W.cell? ⟨w.heap.size + 1, q, none⟩ = P[q]? := by simp [World.cell?, h.b1]
theorem B3.cell2 (h : B3 w F P D W) (q : Nat) : W.cell? ⟨w.heap.size + 1 + 1, q, none⟩ = D[q]? := by simp [World.cell?, h.b2]
end

theorem fitD_sym (lits : List ByteArray) (p d : Dat) (m : ByteArray → List Dat) (h3 : p.kind = 3) : fitD lits p d m = if inB lits p.name then (if d.kind = 3 ∧ d.name = p.name then some m else none) else if varK lits p.kind p.name then some (putM m p.name d) else some m := by
  obtain ⟨k, n, nm, st, lb, ks⟩ := p
  simp only at h3
  rw [fitD, if_pos h3]

set_option maxRecDepth 100000 in
set_option maxHeartbeats 3200000 in
theorem symbol_any (lits : List ByteArray) (B g lb mb L : Nat) (m : ByteArray → List Dat) (o : Nat → Prop) (p d : Dat) (pa da : Option Addr) (pc dc : Nat) (w : World) (h3 : p.kind = 3) (hpn : p.name.size ≤ maxLen) (hdn : d.name.size ≤ maxLen) (hdc : d.kids.length ≤ dc) (hd : LC B w g da d.kids)
    (hB : B ≤ mb) (hL : LitM lb lits w) (hM : Met mb B g L m o w) (hlim : L ≤ 2000) :
    Calls Tryz.prog 83 #[fitv lb mb, dv p pa pc, dv d da dc] w (ToldF mb B g (L + 1) o (fitD lits p d m) w) := by
  have lm := hM.lt
  have HH : Hid (LitM lb lits w ∧ Met mb B g L m o w ∧ LC B w g da d.kids) := ⟨hL, hM, hd⟩
  clear hL hM hd
  rw [fitD_sym lits p d m h3]
  clear h3
  have HS : Hid (∀ W, Below w.heap.size w W → Calls Tryz.prog 110 #[.map (some lb), .string p.name] W fun e w' => e = .returned (.bool (inB lits p.name)) ∧ w' = W) := fun W hb => has_any lb lits p.name W (HH.out.1.below hb) hpn
  have IV : Hid (∀ W, Below w.heap.size w W → Calls Tryz.prog 111 #[.map (some lb), dv p pa pc] W fun e w' => e = .returned (.bool (varK lits p.kind p.name)) ∧ Below W.heap.size W w') := fun W hb => isVariable_any lb lits p pa pc W (HH.out.1.below hb) hpn
  have H0 : Hid (B3 w #[.map (some lb), .map (some mb)] (one6 p pa pc) (one6 d da dc) (((w.alloc (.cells #[.map (some lb), .map (some mb)] 71)).alloc (.cells (one6 p pa pc) 28)).alloc (.cells (one6 d da dc) 28))) := B3.start w _ _ _
  have FB : Hid (∀ W, Below w.heap.size w W → Fr mb o o w W ∧ Met mb B g L m o W) := fun W hb => ⟨Fr.of_below hb, HH.out.2.1.below (by omega) hb⟩
  unfold one6 at H0
  unfold fitv
  unfold dv at IV ⊢
  cases hi : inB lits p.name with
  | true =>
    rw [hi] at HS
    clear hi IV
    simp only [if_true]
    by_cases hk : d.kind = 3
    · by_cases hn : d.name = p.name
      · rw [if_pos ⟨hk, hn⟩]
        have hn' : (d.name.toList == p.name.toList) = true := by rw [hn]; simp
        rw [hk] at H0 ⊢
        clear hn hk
        go_enter Tryz.func83, Tryz.ntmps83
        go_wp2_with fail
        refine (HS.out _ H0.out.old).mono ?_
        rintro e w1 ⟨rfl, rfl⟩
        go_wp2_with fail
        go_ret
        obtain ⟨f1, f2⟩ := FB.out _ H0.out.old
        refine ⟨o, f1, ?_, f2.mono (by omega)⟩
        first | rfl | (simp [hn'])
      · rw [if_neg (fun q => hn q.2)]
        have hn' : (d.name.toList == p.name.toList) = false := beqS_ne hn
        rw [hk] at H0 ⊢
        clear hn hk
        go_enter Tryz.func83, Tryz.ntmps83
        go_wp2_with fail
        refine (HS.out _ H0.out.old).mono ?_
        rintro e w1 ⟨rfl, rfl⟩
        go_wp2_with fail
        go_ret
        refine ⟨o, (FB.out _ H0.out.old).1, ?_⟩
        first | rfl | (simp [hn'])
    · rw [if_neg (fun q => hk q.1)]
      have hk' : (d.kind == 3) = false := by simpa using hk
      clear hk
      go_enter Tryz.func83, Tryz.ntmps83
      go_wp2_with fail
      refine (HS.out _ H0.out.old).mono ?_
      rintro e w1 ⟨rfl, rfl⟩
      go_wp2_with fail
      go_ret
      exact ⟨o, (FB.out _ H0.out.old).1, rfl⟩
  | false =>
    rw [hi] at HS
    clear hi
    simp only [Bool.false_eq_true, if_false]
    cases hv : varK lits p.kind p.name with
    | false =>
      rw [hv] at IV
      clear hv
      simp only [Bool.false_eq_true, if_false]
      go_enter Tryz.func83, Tryz.ntmps83
      go_wp2_with fail
      refine (HS.out _ H0.out.old).mono ?_
      rintro e w1 ⟨rfl, rfl⟩
      go_wp2_with fail
      refine (IV.out _ H0.out.old).mono ?_
      rintro e w2 ⟨rfl, hb2⟩
      have H2 := hidd (H0.out.below hb2)
      clear hb2
      go_wp2_with fail
      go_ret
      obtain ⟨f1, f2⟩ := FB.out _ H2.out.old
      exact ⟨o, f1, rfl, f2.mono (by omega)⟩
    | true =>
      rw [hv] at IV
      clear hv
      simp only [if_true]
      obtain ⟨i0, hinf, hz0, hz1, hz2⟩ := info_parts infoDat
      go_enter Tryz.func83, Tryz.ntmps83
      go_wp2_with fail
      refine (HS.out _ H0.out.old).mono ?_
      rintro e w1 ⟨rfl, rfl⟩
      go_wp2_with fail
      refine (IV.out _ H0.out.old).mono ?_
      rintro e w2 ⟨rfl, hb2⟩
      have H2 := hidd (H0.out.below hb2)
      obtain ⟨f, E, m1, m2, m3, m4, m5, m6, m7⟩ := HH.out.2.1
      have hb0 := H2.out.old
      have h1 : MapV mb L f w2 := m1.kept (hb0.block _ m1.lt)
      have h6 := m6
      have HM : Hid ((∀ s, (E s).map (·.1) = m s) ∧ (∀ s, w2.ownsRow (mb + 1) 28 6 (f s) (E s).length (flat (E s))) ∧ (∀ s, ∀ e ∈ E s, e.1.name.size ≤ maxLen ∧ e.1.kids.length ≤ e.2.2 ∧ LC B w2 g e.2.1 e.1.kids) ∧ (∀ s t k, s ≠ t → (f s).ownBlock = some k → (f t).ownBlock ≠ some k) ∧ (∀ s, (E s).length ≤ L) ∧ ∀ k, o k ↔ ∃ s, (f s).ownBlock = some k) := by
        refine ⟨m2, fun s => (m3 s).kept (row := none) ⟨hb0.os, hb0.tape, hb0.output, hb0.size, fun k hk _ => hb0.block k hk⟩ (by cases hv : (f s).ownBlock <;> simp), fun s e he => ?_, m5, m6, m7⟩
        obtain ⟨q1, q2, q3⟩ := m4 s e he
        exact ⟨q1, q2, q3.below (hb0.mono (by omega))⟩
      have HM1 := hidd h1
      have OL : Hid (∀ k, (f p.name).ownBlock = some k → mb + 1 ≤ k ∧ k < w.heap.size) := fun k hk => (m3 p.name).lt k hk
      have CC : Hid (∀ (W' : World), (∀ k, w.heap.size ≤ k → k ≤ w.heap.size + 1 + 1 → W'.heap[k]? = w2.heap[k]?) → (W'.cell? ⟨w.heap.size, 1, none⟩ = some (.map (some mb)) ∧ W'.cell? ⟨w.heap.size + 1, 2, none⟩ = some (.string p.name) ∧ W'.cell? ⟨w.heap.size + 1 + 1, 0, none⟩ = some (.int .i64 d.kind) ∧ W'.cell? ⟨w.heap.size + 1 + 1, 1, none⟩ = some (.int .i64 d.n) ∧ W'.cell? ⟨w.heap.size + 1 + 1, 2, none⟩ = some (.string d.name) ∧ W'.cell? ⟨w.heap.size + 1 + 1, 3, none⟩ = some (.int .i64 d.stamp) ∧ W'.cell? ⟨w.heap.size + 1 + 1, 4, none⟩ = some (.int .i64 d.lib) ∧ W'.cell? ⟨w.heap.size + 1 + 1, 5, none⟩ = some (.slice da d.kids.length dc))) := by
        intro W' hW
        have e0 : ∀ q, W'.cell? ⟨w.heap.size, q, none⟩ = w2.cell? ⟨w.heap.size, q, none⟩ := fun q => World.cell?_of_block (a := ⟨w.heap.size, q, none⟩) (hW w.heap.size (by omega) (by omega))
        have e1 : ∀ q, W'.cell? ⟨w.heap.size + 1, q, none⟩ = w2.cell? ⟨w.heap.size + 1, q, none⟩ := fun q => World.cell?_of_block (a := ⟨w.heap.size + 1, q, none⟩) (hW (w.heap.size + 1) (by omega) (by omega))
        have e2 : ∀ q, W'.cell? ⟨w.heap.size + 1 + 1, q, none⟩ = w2.cell? ⟨w.heap.size + 1 + 1, q, none⟩ := fun q => World.cell?_of_block (a := ⟨w.heap.size + 1 + 1, q, none⟩) (hW (w.heap.size + 1 + 1) (by omega) (by omega))
        exact ⟨(e0 1).trans (H2.out.cell0 1), (e1 2).trans (H2.out.cell1 2), (e2 0).trans (H2.out.cell2 0), (e2 1).trans (H2.out.cell2 1), (e2 2).trans (H2.out.cell2 2), (e2 3).trans (H2.out.cell2 3), (e2 4).trans (H2.out.cell2 4), (e2 5).trans (H2.out.cell2 5)⟩
      have NX : Hid (∀ (w3 : World), (w2.drew.alloc (.cells #[.int .i64 d.kind, .int .i64 d.n, .string d.name, .int .i64 d.stamp, .int .i64 d.lib, .slice da d.kids.length dc] 28)).grownBy w3 (f p.name).ownBlock → (w3.cell? ⟨w.heap.size, 1, none⟩ = some (.map (some mb)) ∧ w3.cell? ⟨w.heap.size + 1, 2, none⟩ = some (.string p.name) ∧ w3.cell? ⟨w.heap.size + 1 + 1, 0, none⟩ = some (.int .i64 d.kind) ∧ w3.cell? ⟨w.heap.size + 1 + 1, 1, none⟩ = some (.int .i64 d.n) ∧ w3.cell? ⟨w.heap.size + 1 + 1, 2, none⟩ = some (.string d.name) ∧ w3.cell? ⟨w.heap.size + 1 + 1, 3, none⟩ = some (.int .i64 d.stamp) ∧ w3.cell? ⟨w.heap.size + 1 + 1, 4, none⟩ = some (.int .i64 d.lib) ∧ w3.cell? ⟨w.heap.size + 1 + 1, 5, none⟩ = some (.slice da d.kids.length dc)) ∧ MapV mb L f w3 ∧ ∀ (w4 : World), w3.grownBy w4 (some mb) → (w4.cell? ⟨w.heap.size, 1, none⟩ = some (.map (some mb)) ∧ w4.cell? ⟨w.heap.size + 1, 2, none⟩ = some (.string p.name) ∧ w4.cell? ⟨w.heap.size + 1 + 1, 0, none⟩ = some (.int .i64 d.kind) ∧ w4.cell? ⟨w.heap.size + 1 + 1, 1, none⟩ = some (.int .i64 d.n) ∧ w4.cell? ⟨w.heap.size + 1 + 1, 2, none⟩ = some (.string d.name) ∧ w4.cell? ⟨w.heap.size + 1 + 1, 3, none⟩ = some (.int .i64 d.stamp) ∧ w4.cell? ⟨w.heap.size + 1 + 1, 4, none⟩ = some (.int .i64 d.lib) ∧ w4.cell? ⟨w.heap.size + 1 + 1, 5, none⟩ = some (.slice da d.kids.length dc))) := by
        intro w3 hg
        have hsame : ∀ k, k < w2.heap.size → (f p.name).ownBlock ≠ some k → w3.heap[k]? = w2.heap[k]? := fun k hk hn => (hg.block k (by simp; omega) (fun e => hn e.symm)).trans (Below.heap_alloc w2.drew _ k hk)
        have hz := H2.out.size
        have hs3 := hg.size
        simp at hs3
        have hk3 : ∀ k, w.heap.size ≤ k → k ≤ w.heap.size + 1 + 1 → w3.heap[k]? = w2.heap[k]? := fun k h1 h2 => hsame k (by omega) (fun e => by have := OL.out _ e; omega)
        refine ⟨CC.out w3 hk3, HM1.out.kept (hsame mb HM1.out.lt (fun e => by have := OL.out mb e; omega)), fun w4 hg4 => CC.out w4 fun k h1 h2 => (hg4.block k (by omega) (by simp; omega)).trans (hk3 k h1 h2)⟩
      have KB : Hid (w2.cell? ⟨w.heap.size, 1, none⟩ = some (.map (some mb)) ∧ w2.cell? ⟨w.heap.size + 1, 2, none⟩ = some (.string p.name) ∧ w2.cell? ⟨w.heap.size + 1 + 1, 0, none⟩ = some (.int .i64 d.kind) ∧ w2.cell? ⟨w.heap.size + 1 + 1, 1, none⟩ = some (.int .i64 d.n) ∧ w2.cell? ⟨w.heap.size + 1 + 1, 2, none⟩ = some (.string d.name) ∧ w2.cell? ⟨w.heap.size + 1 + 1, 3, none⟩ = some (.int .i64 d.stamp) ∧ w2.cell? ⟨w.heap.size + 1 + 1, 4, none⟩ = some (.int .i64 d.lib) ∧ w2.cell? ⟨w.heap.size + 1 + 1, 5, none⟩ = some (.slice da d.kids.length dc)) := CC.out w2 fun _ _ _ => rfl
      have KA : Hid ((w2.alloc (.cells #[.int .i64 d.kind, .int .i64 d.n, .string d.name, .int .i64 d.stamp, .int .i64 d.lib, .slice da d.kids.length dc] 28)).cell? ⟨w.heap.size, 1, none⟩ = some (.map (some mb)) ∧ (w2.alloc (.cells #[.int .i64 d.kind, .int .i64 d.n, .string d.name, .int .i64 d.stamp, .int .i64 d.lib, .slice da d.kids.length dc] 28)).cell? ⟨w.heap.size + 1, 2, none⟩ = some (.string p.name) ∧ (w2.alloc (.cells #[.int .i64 d.kind, .int .i64 d.n, .string d.name, .int .i64 d.stamp, .int .i64 d.lib, .slice da d.kids.length dc] 28)).cell? ⟨w.heap.size + 1 + 1, 0, none⟩ = some (.int .i64 d.kind) ∧ (w2.alloc (.cells #[.int .i64 d.kind, .int .i64 d.n, .string d.name, .int .i64 d.stamp, .int .i64 d.lib, .slice da d.kids.length dc] 28)).cell? ⟨w.heap.size + 1 + 1, 1, none⟩ = some (.int .i64 d.n) ∧ (w2.alloc (.cells #[.int .i64 d.kind, .int .i64 d.n, .string d.name, .int .i64 d.stamp, .int .i64 d.lib, .slice da d.kids.length dc] 28)).cell? ⟨w.heap.size + 1 + 1, 2, none⟩ = some (.string d.name) ∧ (w2.alloc (.cells #[.int .i64 d.kind, .int .i64 d.n, .string d.name, .int .i64 d.stamp, .int .i64 d.lib, .slice da d.kids.length dc] 28)).cell? ⟨w.heap.size + 1 + 1, 3, none⟩ = some (.int .i64 d.stamp) ∧ (w2.alloc (.cells #[.int .i64 d.kind, .int .i64 d.n, .string d.name, .int .i64 d.stamp, .int .i64 d.lib, .slice da d.kids.length dc] 28)).cell? ⟨w.heap.size + 1 + 1, 4, none⟩ = some (.int .i64 d.lib) ∧ (w2.alloc (.cells #[.int .i64 d.kind, .int .i64 d.n, .string d.name, .int .i64 d.stamp, .int .i64 d.lib, .slice da d.kids.length dc] 28)).cell? ⟨w.heap.size + 1 + 1, 5, none⟩ = some (.slice da d.kids.length dc)) := CC.out _ fun k h1 h2 => Below.heap_alloc w2 _ k (by have := H2.out.size; omega)
      have z2 : w.heap.size + 1 + 1 < w2.heap.size := H2.out.size
      have z1 : w.heap.size + 1 < w2.heap.size := by omega
      have z0 : w.heap.size < w2.heap.size := by omega
      have le : (E p.name).length ≤ 2000 := Nat.le_trans (h6 p.name) hlim
      have l1 : (Instr.lookup 69 (.map (some mb)) (.string p.name) false).run Tryz.prog w2.drew = .ok (f p.name) w2.drew := (h1.kept (w' := w2.drew) rfl).run p.name hpn
      have l2 : (Instr.lookup 69 (.map (some mb)) (.string p.name) false).run Tryz.prog (w2.alloc (.cells #[.int .i64 d.kind, .int .i64 d.n, .string d.name, .int .i64 d.stamp, .int .i64 d.lib, .slice da d.kids.length dc] 28)).drew = .ok (f p.name) (w2.alloc (.cells #[.int .i64 d.kind, .int .i64 d.n, .string d.name, .int .i64 d.stamp, .int .i64 d.lib, .slice da d.kids.length dc] 28)).drew := (h1.kept (w' := (w2.alloc (.cells #[.int .i64 d.kind, .int .i64 d.n, .string d.name, .int .i64 d.stamp, .int .i64 d.lib, .slice da d.kids.length dc] 28)).drew) (Below.heap_alloc w2 _ _ h1.lt)).run p.name hpn
      have HF2 := hidd (FB.out _ H2.out.old).1
      have hL1 : L < maxLen := by unfold maxLen; omega
      clear hb2 hb0 h1 h6 m1 m2 m3 m4 m5 m6 m7 IV HS
      go_wp2_with fail
      go_region_held_law (fun w' => (w'.cell? ⟨w.heap.size, 1, none⟩ = some (.map (some mb)) ∧ w'.cell? ⟨w.heap.size + 1, 2, none⟩ = some (.string p.name) ∧ w'.cell? ⟨w.heap.size + 1 + 1, 0, none⟩ = some (.int .i64 d.kind) ∧ w'.cell? ⟨w.heap.size + 1 + 1, 1, none⟩ = some (.int .i64 d.n) ∧ w'.cell? ⟨w.heap.size + 1 + 1, 2, none⟩ = some (.string d.name) ∧ w'.cell? ⟨w.heap.size + 1 + 1, 3, none⟩ = some (.int .i64 d.stamp) ∧ w'.cell? ⟨w.heap.size + 1 + 1, 4, none⟩ = some (.int .i64 d.lib) ∧ w'.cell? ⟨w.heap.size + 1 + 1, 5, none⟩ = some (.slice da d.kids.length dc)))
        (first | (with_reducible exact KB.out) | (with_reducible exact KA.out) | (with_reducible exact hc3) | (with_reducible exact hc4) | exact KB.out | exact KA.out | exact hc3 | exact hc4)
        ((refine step_append_lies _ rfl (.tmp 34) (.tmp 36) 26 rfl (mb + 1) 28 i0 _ 6 72 Tryz.underlying26 hinf hz0 hz1 hz2 rfl (by decide) (f p.name) (E p.name).length (flat (E p.name)) rfl (by exact World.ownsRow.alloc (w := w2.drew) (HM.out.2.1 p.name) _) ⟨w2.heap.size, 0, none⟩ 1 1 [.int .i64 d.kind, .int .i64 d.n, .string d.name, .int .i64 d.stamp, .int .i64 d.lib, .slice da d.kids.length dc] rfl rfl (by exact sixNews w2.drew _ _ _ _ _ _) (by exact sixOne _ _ _ _ _ _ _ _) (by decide) (by unfold maxLen; omega) (by omega) (by simp; omega) (w2.heap.size + 1) (by simp) ?_; intro gg cap w3 hown hgrow hat hlt3; obtain ⟨hc3, hm3, hc34⟩ := NX.out w3 hgrow; obtain ⟨w4, hup, hm4, hg4⟩ := hm3.update hL1 p.name hpn (.slice (some ⟨gg, 0, none⟩) ((E p.name).length + 1) cap); have hc4 := hc34 w4 hg4; clear hm3 hc34))
      all_goals
        have hg3 : w2.grownBy w3 (f p.name).ownBlock := ⟨hgrow.os, hgrow.tape, hgrow.output, Nat.le_trans (by simp) hgrow.size, fun k hk hn => (hgrow.block k (by simp; omega) hn).trans (Below.heap_alloc w2.drew _ k hk)⟩
        have HQ : Hid (∃ o', Fr mb o o' w w4 ∧ Met mb B g (L + 1) (putM m p.name d) o' w4) := by
          obtain ⟨o', q1, q2⟩ := Met.put (nm := p.name) (d := d) (da := da) (dc := dc) hB HM1.out HM.out.2.1 HM.out.2.2.1 HM.out.2.2.2.1 HM.out.2.2.2.2.1 HM.out.2.2.2.2.2 hdn hdc (HH.out.2.2.below (H2.out.old.mono (by omega))) hown hg3 (by rcases hat with q | q; exact .inl q; exact .inr (by omega)) hm4 hg4
          have e : (fun s => (E s).map (·.1)) = m := funext HM.out.1
          rw [e] at q2
          exact ⟨o', HF2.out.trans q1, q2⟩
        clear hg3 hm4 hg4 hown hgrow hat hup hc3 hc4 KB KA CC NX OL HM1 HM
        go_wp2_with fail
        go_ret
        obtain ⟨o', q1, q2⟩ := HQ.out
        exact ⟨o', q1, rfl, q2⟩
end
section
set_option linter.unusedVariables false
set_option linter.unusedSimpArgs false
open Go.RowKit Go.Maps Go.WideMaps

theorem snoc_cases {α : Type} (l : List α) : l = [] ∨ ∃ a q, l = a ++ [q] := by
  rcases List.eq_nil_or_concat l with h | ⟨a, q, h⟩
  · exact .inl h
  · exact .inr ⟨a, q, by simpa using h⟩

set_option maxHeartbeats 800000 in
theorem dotted_none (pa : Option Addr) (pc : Nat) (w : World) :
    Calls Tryz.prog 55 #[.slice pa 0 pc] w fun e w' => e = .returned (.tuple #[.slice pa 0 pc, .slice none 0 0]) ∧ Below w.heap.size w w' := by
  go_enter Tryz.func55, Tryz.ntmps55
  go_wp2_with fail
  go_ret2
  exact ⟨rfl, Below.refl _ _⟩

set_option maxHeartbeats 1600000 in
theorem dotted_plain (B g : Nat) (ps : List Dat) (q : Dat) (a : List Dat) (pa : Option Addr) (pc : Nat) (w : World) (hps : ps = a ++ [q]) (hq : isDots q = false) (hl : LC B w (g + 1) pa ps) :
    Calls Tryz.prog 55 #[.slice pa ps.length pc] w fun e w' => e = .returned (.tuple #[.slice pa ps.length pc, .slice none 0 0]) ∧ Below w.heap.size w w' := by
  have hlen := hl.len
  obtain ⟨g', b, o, hg, ha, hbB, hall⟩ := hl.at (by rw [hps]; simp)
  subst ha
  obtain ⟨a', cap', k0, k1, k2, k3, k4, k5, hkn, hkc, hkk⟩ := hall a.length q (by rw [hps]; simp)
  have hn : ps.length = a.length + 1 := by rw [hps]; simp
  rw [hn] at hlen ⊢
  have ID : Hid (∀ w, Calls Tryz.prog 61 #[dv q a' cap'] w fun e w' => e = .returned (.bool false) ∧ Below w.heap.size w w') := fun w => by
    have := isDots_any q a' cap' w
    rwa [hq] at this
  unfold dv at ID
  clear hall hkk hl hg hn hps hkn hkc hq
  have hz : ((a.length : Int) + 1 == 0) = false := beq_eq_false_iff_ne.2 (by omega)
  go_enter Tryz.func55, Tryz.ntmps55
  go_wp2_with fail
  refine (ID.out _).mono ?_
  rintro e w1 ⟨rfl, hb⟩
  have HB := hidd hb
  clear hb
  go_wp2_with fail
  go_ret2
  exact ⟨rfl, HB.out⟩

set_option maxRecDepth 100000 in
set_option maxHeartbeats 1600000 in
theorem dotted_dots (B g : Nat) (ps : List Dat) (p q : Dat) (a : List Dat) (pa : Option Addr) (pc : Nat) (w : World) (hps : ps = a ++ [p, q]) (hq : isDots q = true) (hl : LC B w (g + 1) pa ps) (hc : ps.length ≤ pc) :
    Calls Tryz.prog 55 #[.slice pa ps.length pc] w fun e w' => Below w.heap.size w w' ∧ ∃ b o, pa = some ⟨b, o, none⟩ ∧ e = .returned (.tuple #[.slice pa a.length pc, .slice (some ⟨b, o + a.length * 6, none⟩) 1 (pc - a.length)]) := by
  have hlen := hl.len
  obtain ⟨g', b, o, hg, ha, hbB, hall⟩ := hl.at (by rw [hps]; simp)
  subst ha
  obtain ⟨a', cap', k0, k1, k2, k3, k4, k5, hkn, hkc, hkk⟩ := hall (a.length + 1) q (by rw [hps]; simp)
  have hn : ps.length = a.length + 2 := by rw [hps]; simp
  rw [hn] at hlen hc ⊢
  have ID : Hid (∀ w, Calls Tryz.prog 61 #[dv q a' cap'] w fun e w' => e = .returned (.bool true) ∧ Below w.heap.size w w') := fun w => by
    have := isDots_any q a' cap' w
    rwa [hq] at this
  unfold dv at ID
  clear hall hkk hl hg hn hps hkn hkc hq
  have hz : ((a.length : Int) + 2 == 0) = false := beq_eq_false_iff_ne.2 (by omega)
  have hx : ((a.length : Int) + 2 - 1) = (a.length : Int) + 1 := by omega
  go_enter Tryz.func55, Tryz.ntmps55
  go_wp2_with fail
  refine (ID.out _).mono ?_
  rintro e w1 ⟨rfl, hb⟩
  have HB := hidd hb
  clear hb ID k0 k1 k2 k3 k4 k5
  go_wp2_with fail
  go_quiet (fail)
  go_wp2_with fail
  go_ret2
  exact ⟨below_drewN HB.out _, b, o, rfl, rfl⟩

theorem fitD_list (lits : List ByteArray) (p d : Dat) (m : ByteArray → List Dat) (h4 : p.kind = 4) : fitD lits p d m = if d.kind = 4 then fitL lits p.kids d.kids m else none := by
  obtain ⟨k, n, nm, st, lb, ks⟩ := p
  simp only at h4
  rw [fitD, if_neg (by omega), if_pos h4]
theorem fitD_else (lits : List ByteArray) (p d : Dat) (m : ByteArray → List Dat) (h3 : p.kind ≠ 3) (h4 : p.kind ≠ 4) : fitD lits p d m = if p.kind = d.kind ∧ p.n = d.n then some m else none := by
  obtain ⟨k, n, nm, st, lb, ks⟩ := p
  simp only at h3 h4
  rw [fitD, if_neg h3, if_neg h4]

/-- What is asked of a list. -/
def AskL (lits : List ByteArray) (B gp gd lb mb : Nat) : Prop := ∀ (ps ds : List Dat) (pa da : Option Addr) (pc dc L : Nat) (m : ByteArray → List Dat) (o : Nat → Prop) (w : World), LC B w gp pa ps → LC B w (gd + 1) da ds → ps.length ≤ pc → ds.length ≤ dc → okL ps true = true →
    LitM lb lits w → Met mb B gd L m o w → L + sizeL ds ≤ 2000 → Calls Tryz.prog 32 #[fitv lb mb, .slice pa ps.length pc, .slice da ds.length dc] w (ToldF mb B gd (L + sizeL ds) o (fitL lits ps ds m) w)

set_option maxRecDepth 100000 in
set_option maxHeartbeats 3200000 in
theorem thing_step (lits : List ByteArray) (B gp gd lb mb L : Nat) (m : ByteArray → List Dat) (o : Nat → Prop) (p d : Dat) (pa da : Option Addr) (pc dc : Nat) (w : World) (hpn : p.name.size ≤ maxLen) (hdn : d.name.size ≤ maxLen) (hpc : p.kids.length ≤ pc) (hdc : d.kids.length ≤ dc) (hp : LC B w gp pa p.kids) (hd : LC B w gd da d.kids)
    (hok : okD p = true) (hB : B ≤ mb) (hL : LitM lb lits w) (hM : Met mb B gd L m o w) (hlim : L + sizeD d ≤ 2000) (ih : AskL lits B gp gd lb mb) :
    Calls Tryz.prog 56 #[fitv lb mb, dv p pa pc, dv d da dc] w (ToldF mb B gd (L + sizeD d) o (fitD lits p d m) w) := by
  have lm := hM.lt
  have hdp := sizeD_pos d
  have HH : Hid (LitM lb lits w ∧ Met mb B gd L m o w ∧ LC B w gp pa p.kids ∧ LC B w gd da d.kids) := ⟨hL, hM, hp, hd⟩
  have H0 : Hid (B3 w #[.map (some lb), .map (some mb)] (one6 p pa pc) (one6 d da dc) (((w.alloc (.cells #[.map (some lb), .map (some mb)] 71)).alloc (.cells (one6 p pa pc) 28)).alloc (.cells (one6 d da dc) 28))) := B3.start w _ _ _
  have FB : Hid (∀ W, Below w.heap.size w W → Fr mb o o w W ∧ Met mb B gd L m o W ∧ LitM lb lits W ∧ LC B W gp pa p.kids ∧ LC B W gd da d.kids) := fun W hb => ⟨Fr.of_below hb, HH.out.2.1.below (by omega) hb, HH.out.1.below hb, HH.out.2.2.1.below (hb.mono (by omega)), HH.out.2.2.2.below (hb.mono (by omega))⟩
  clear hL hM hp hd
  by_cases h3 : p.kind = 3
  · have SY : Hid (∀ W, Below w.heap.size w W → Calls Tryz.prog 83 #[fitv lb mb, dv p pa pc, dv d da dc] W (ToldF mb B gd (L + 1) o (fitD lits p d m) W)) := fun W hb => by
      obtain ⟨f1, f2, f3, f4, f5⟩ := FB.out W hb
      exact symbol_any lits B gd lb mb L m o p d pa da pc dc W h3 hpn hdn hdc f5 hB f3 f2 (by omega)
    unfold one6 at H0
    unfold fitv dv at SY ⊢
    rw [h3] at SY H0 ⊢
    generalize fitD lits p d m = r at SY ⊢
    clear h3 ih hok
    go_enter Tryz.func56, Tryz.ntmps56
    go_wp2_with fail
    refine (SY.out _ H0.out.old).mono ?_
    rintro e w1 ⟨o', f1, f2⟩
    have HF : Hid (Fr mb o o' w w1) := (FB.out _ H0.out.old).1.trans f1
    clear f1
    cases r with
    | none =>
      simp only at f2
      subst f2
      go_wp2_with fail
      go_ret
      exact ⟨o', HF.out, rfl⟩
    | some m' =>
      simp only at f2
      obtain ⟨rfl, hm⟩ := f2
      have HM := hidd hm
      clear hm
      go_wp2_with fail
      go_ret
      exact ⟨o', HF.out, rfl, HM.out.mono (by omega)⟩
  · have h3' : (p.kind == 3) = false := by simpa using h3
    by_cases h4 : p.kind = 4
    · rw [fitD_list lits p d m h4]
      have hokl : okL p.kids true = true := by
        obtain ⟨k, n, nm, st, lb, ks⟩ := p
        simp only at h4
        rw [okD, if_pos h4] at hok
        exact hok
      by_cases hk : d.kind = 4
      · rw [if_pos hk]
        have hsz : sizeD d = 1 + sizeL d.kids := by
          obtain ⟨k, n, nm, st, lb, ks⟩ := d
          simp only at hk
          rw [sizeD, if_pos hk]
        have LI : Hid (∀ W, Below w.heap.size w W → Calls Tryz.prog 32 #[fitv lb mb, .slice pa p.kids.length pc, .slice da d.kids.length dc] W (ToldF mb B gd (L + sizeL d.kids) o (fitL lits p.kids d.kids m) W)) := fun W hb => by
          obtain ⟨f1, f2, f3, f4, f5⟩ := FB.out W hb
          exact ih p.kids d.kids pa da pc dc L m o W f4 f5.more hpc hdc hokl f3 f2 (by omega)
        have hle : L + sizeL d.kids ≤ L + sizeD d := by omega
        unfold one6 at H0
        unfold fitv dv at *
        rw [h4, hk] at H0
        rw [h4, hk]
        generalize fitL lits p.kids d.kids m = r at LI ⊢
        clear h3 h3' h4 hk ih hok hokl hsz
        go_enter Tryz.func56, Tryz.ntmps56
        go_wp2_with fail
        refine (LI.out _ H0.out.old).mono ?_
        rintro e w1 ⟨o', f1, f2⟩
        have HF : Hid (Fr mb o o' w w1) := (FB.out _ H0.out.old).1.trans f1
        clear f1
        cases r with
        | none =>
          simp only at f2
          subst f2
          go_wp2_with fail
          go_ret
          exact ⟨o', HF.out, rfl⟩
        | some m' =>
          simp only at f2
          obtain ⟨rfl, hm⟩ := f2
          have HM := hidd hm
          clear hm
          go_wp2_with fail
          go_ret
          exact ⟨o', HF.out, rfl, HM.out.mono hle⟩
      · rw [if_neg hk]
        have hk' : (d.kind == 4) = false := by simpa using hk
        unfold one6 at H0
        unfold fitv dv
        rw [h4] at H0 ⊢
        clear h3 h3' h4 hk ih hok hokl
        go_enter Tryz.func56, Tryz.ntmps56
        go_wp2_with fail
        go_ret
        exact ⟨o, (FB.out _ H0.out.old).1, rfl⟩
    · rw [fitD_else lits p d m h3 h4]
      have h4' : (p.kind == 4) = false := by simpa using h4
      unfold one6 at H0
      unfold fitv dv
      clear h3 h4 ih hok
      by_cases hk : p.kind = d.kind
      · have hk' : (p.kind == d.kind) = true := by simpa using hk
        by_cases hn : p.n = d.n
        · rw [if_pos ⟨hk, hn⟩]
          have hn' : (p.n == d.n) = true := by simpa using hn
          clear hk hn
          go_enter Tryz.func56, Tryz.ntmps56
          go_wp2_with fail
          go_ret
          obtain ⟨f1, f2, _⟩ := FB.out _ H0.out.old
          exact ⟨o, f1, rfl, f2.mono (by omega)⟩
        · rw [if_neg (fun q => hn q.2)]
          have hn' : (p.n == d.n) = false := by simpa using hn
          clear hk hn
          go_enter Tryz.func56, Tryz.ntmps56
          go_wp2_with fail
          go_ret
          exact ⟨o, (FB.out _ H0.out.old).1, rfl⟩
      · rw [if_neg (fun q => hk q.1)]
        have hk' : (p.kind == d.kind) = false := by simpa using hk
        clear hk
        go_enter Tryz.func56, Tryz.ntmps56
        go_wp2_with fail
        go_ret
        exact ⟨o, (FB.out _ H0.out.old).1, rfl⟩
end
end Go.Proofs.YtgeedaabdonjcaeGreatDoor
