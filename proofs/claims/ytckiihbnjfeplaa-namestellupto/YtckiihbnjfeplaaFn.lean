/- The law NamesTell, walked. -/
import Derived.Test.YtckiihbnjfeplaaFi
import Derived.Test.YtckiihbnjfeplaaFm
import Derived.Test.YtckiihbnjfeplaaWn
namespace Go.Proofs.Ytckiihbnjfeplaa
set_option linter.unusedVariables false
set_option linter.unusedSimpArgs false
open Go.RowKit

def pairO : Sum Int (List Pr) → List Pr × Int
  | .inl x => ([], x)
  | .inr qs => (qs, 0)
def pairM : Sum (Int × Int) (List Bd) → List Bd × Int × Int
  | .inl x => ([], x.1, x.2)
  | .inr qs => (qs, 0, 0)
def OutQ (p : List Pr × Int) (w : World) (e : Ending) (w' : World) : Prop := Below w.heap.size w w' ∧ ∃ a c, e = .returned (.tuple #[.slice a p.1.length c, .int .i64 p.2]) ∧ Prs w'.heap.size w' a p.1
def OutN (p : List Bd × Int × Int) (w : World) (e : Ending) (w' : World) : Prop := Below w.heap.size w w' ∧ ∃ a c, e = .returned (.tuple #[.slice a p.1.length c, .agg #[.int .i64 p.2.1, .int .i64 p.2.2]]) ∧ Bns w'.heap.size w' a p.1
theorem outO {R : Sum Int (List Pr)} {w w' : World} {e : Ending} (h : OutO R w e w') : OutQ (pairO R) w e w' := by
  cases R with
  | inl x => exact ⟨h.1, none, 0, h.2, by simp [pairO], Or.inl rfl⟩
  | inr qs => exact ⟨h.1, h.2⟩
theorem outB {R : Sum Int (List Pr)} {w w' : World} {e : Ending} (h : Below w.heap.size w w' ∧ Brings R e w') : OutQ (pairO R) w e w' := by
  cases R with
  | inl x => exact ⟨h.1, none, 0, h.2.2, by simp [pairO], Or.inl rfl⟩
  | inr qs => exact ⟨h.1, h.2⟩
theorem outM {R : Sum (Int × Int) (List Bd)} {w w' : World} {e : Ending} (h : OutM R w e w') : OutN (pairM R) w e w' := by
  cases R with
  | inl x => exact ⟨h.1, none, 0, h.2, by simp [pairM], Or.inl rfl⟩
  | inr qs => exact ⟨h.1, h.2⟩

set_option maxRecDepth 100000 in
set_option maxHeartbeats 6400000 in
theorem NamesTell_walk (B : Nat) (s : St) (vs : List Value) (ex : List ByteArray) (ea : Option Addr) (ec : Nat) (l : List Bd) (la : Option Addr) (lc : Nat) (w : World) (h : LiesS B w s vs) (he : Strs B w ea ex) (hb : Bns B w la l) (hB : B ≤ w.heap.size) (hd : depS s < 1048576) (hsm : SmallS s)
    (hl : l.length ≤ 1048576) (hsz : ∀ p ∈ l, p.1.size ≤ 1048576 ∧ p.2.1.size ≤ 1048576 ∧ p.2.2.size ≤ 1048576) :
    Calls Try.prog 3 #[aggOf vs, .slice ea ex.length ec, .slice la l.length lc] w fun e w' => e = .returned (.bool true) ∧ Below w.heap.size w w' := by
  obtain ⟨⟨qs, er⟩, HPO⟩ : ∃ p, Hid (p = pairO (ofL s ex)) := ⟨_, rfl⟩
  obtain ⟨⟨ms, m1, m2⟩, HPM⟩ : ∃ p, Hid (p = pairM (mergeL l)) := ⟨_, rfl⟩
  have O1 : Hid (∀ W, Below w.heap.size w W → Calls Try.prog 4 #[aggOf vs, .slice ea ex.length ec] W (OutQ (qs, er) W)) := fun W hW => by
    rw [HPO.out]
    exact (Of_any B s vs ex ea ec W (h.old hB hW) (he.stay (fun k hk => hW.block k (Nat.lt_of_lt_of_le hk hB)) (Nat.le_refl _)) (Nat.le_trans hB hW.size)).mono fun e w' q => outO q
  have O2 : Hid (∀ W, Below w.heap.size w W → Calls Try.prog 5 #[aggOf vs, .slice ea ex.length ec] W (OutQ (qs, er) W)) := fun W hW => by
    rw [HPO.out]
    exact (refOf_any B s vs ex ea ec W (h.old hB hW) (he.stay (fun k hk => hW.block k (Nat.lt_of_lt_of_le hk hB)) (Nat.le_refl _)) (Nat.le_trans hB hW.size)).mono fun e w' q => outB q
  have L1 : Hid (∀ W, Below w.heap.size w W → Calls Try.prog 7 #[aggOf vs] W fun e w' => e = .returned (.string (libS s)) ∧ Below W.heap.size W w') := fun W hW => Lib_any B s vs W (h.old hB hW) (Nat.le_trans hB hW.size) hd hsm
  have L2 : Hid (∀ W, Below w.heap.size w W → Calls Try.prog 8 #[aggOf vs] W fun e w' => e = .returned (.string (libS s)) ∧ Below W.heap.size W w') := fun W hW => refLib_any B s vs W (h.old hB hW) (Nat.le_trans hB hW.size)
  have hbn : ∀ W, Below w.heap.size w W → Bns B W la l := fun W hW => hb.old (fun k hk => hW.block k (Nat.lt_of_lt_of_le hk hB)) (Nat.le_refl _)
  have M1 : Hid (∀ W, Below w.heap.size w W → Calls Try.prog 9 #[.slice la l.length lc] W (OutN (ms, m1, m2) W)) := fun W hW => by
    rw [HPM.out]
    exact (Merge_any B l la lc W (hbn W hW) (Nat.le_trans hB hW.size) (by omega) (fun p hp => by have := hsz p hp; omega)).mono fun e w' q => outM q
  have M2 : Hid (∀ W, Below w.heap.size w W → Calls Try.prog 10 #[.slice la l.length lc] W (OutN (ms, m1, m2) W)) := fun W hW => by
    rw [HPM.out]
    exact (refMerge_any B l la lc W (hbn W hW) (Nat.le_trans hB hW.size) (by omega)).mono fun e w' q => outM q
  obtain ⟨a0, a1, a2, c0, c1, c2, hvs, hL, hn⟩ := h.cells
  have hag : aggOf vs = .agg #[.int .i64 s.ly.kind, .string s.ly.name, .slice a0 s.ly.names.length c0, .slice a1 s.ly.asn.length c1, .string s.ly.pre, .slice a2 s.nk c2] := by rw [hvs]; rfl
  rw [hag] at O1 O2 L1 L2 ⊢
  clear hag hvs hL hn h he hb hB hd hsm hsz hbn HPO HPM
  obtain ⟨nm, hnm⟩ : ∃ nm, nm = libS s := ⟨_, rfl⟩
  rw [← hnm] at L1 L2
  clear hnm
  generalize s.ly.kind = kd at *
  generalize s.ly.name = na at *
  generalize s.ly.names.length = nl at *
  generalize s.ly.asn.length = al at *
  generalize s.ly.pre = pr at *
  generalize s.nk = nk at *
  go_enter Try.func3, Try.ntmps3
  go_wp2_with fail
  have HBX : Hid (∀ W, Below (w.heap.size + 1) (w.alloc (.cells #[.int .i64 kd, .string na, .slice a0 nl c0, .slice a1 al c1, .string pr, .slice a2 nk c2] 25)) W → W.heap[w.heap.size]? = some (.cells #[.int .i64 kd, .string na, .slice a0 nl c0, .slice a1 al c1, .string pr, .slice a2 nk c2] 25 (0, 0)) ∧ Below w.heap.size w W) := fun W hW => ⟨(hW.block _ (by omega)).trans (heap_alloc_new w _), ((Below.refl _ _).alloc (Nat.le_refl _) _).trans (hW.mono (Nat.le_succ _))⟩
  have hsW : (w.alloc (.cells #[.int .i64 kd, .string na, .slice a0 nl c0, .slice a1 al c1, .string pr, .slice a2 nk c2] 25)).heap.size = w.heap.size + 1 := by simp
  generalize (w.alloc (.cells #[.int .i64 kd, .string na, .slice a0 nl c0, .slice a1 al c1, .string pr, .slice a2 nk c2] 25)) = W0 at HBX hsW ⊢
  have HC : Hid (∀ W, Below (w.heap.size + 1) W0 W → W.cell? ⟨w.heap.size, 0, none⟩ = some (.int .i64 kd) ∧ W.cell? ⟨w.heap.size, 1, none⟩ = some (.string na) ∧ W.cell? ⟨w.heap.size, 2, none⟩ = some (.slice a0 nl c0) ∧ W.cell? ⟨w.heap.size, 3, none⟩ = some (.slice a1 al c1) ∧ W.cell? ⟨w.heap.size, 4, none⟩ = some (.string pr) ∧ W.cell? ⟨w.heap.size, 5, none⟩ = some (.slice a2 nk c2)) := fun W hW => by
    have e := (HBX.out W hW).1
    refine ⟨?_, ?_, ?_, ?_, ?_, ?_⟩ <;> (simp only [World.cell?, e]; rfl)
  refine (O1.out _ (HBX.out _ (Below.refl _ _)).2).mono ?_
  rintro e w1 ⟨hb1, xa, xc, rfl, hx1⟩
  have H1 : Hid (Below (w.heap.size + 1) W0 w1 ∧ Prs w1.heap.size w1 xa qs) := ⟨hb1.mono (by omega), hx1⟩
  obtain ⟨v0, v1, v2, v3, v4, v5⟩ := HC.out _ H1.out.1
  clear hb1 hx1
  go_wp2_with fail
  refine (O2.out _ (HBX.out _ H1.out.1).2).mono ?_
  rintro e w2 ⟨hb2, ya, yc, rfl, hy2⟩
  have H2 : Hid (Below (w.heap.size + 1) W0 w2 ∧ Prs w2.heap.size w2 xa qs ∧ Prs w2.heap.size w2 ya qs) := ⟨H1.out.1.trans (hb2.mono (by have := H1.out.1.size; omega)), H1.out.2.size_le hb2 hb2.size, hy2⟩
  clear v0 v1 v2 v3 v4 v5
  obtain ⟨v0, v1, v2, v3, v4, v5⟩ := HC.out _ H2.out.1
  clear hb2 hy2
  have SM : Hid (∀ W, Below w2.heap.size w2 W → Calls Try.prog 6 #[.slice xa qs.length xc, .slice ya qs.length yc] W fun e w' => e = .returned (.bool true) ∧ Below (w.heap.size + 1) W0 w') := fun W hW => (SameP_yes w2.heap.size qs xa ya xc yc W (H2.out.2.1.size_le hW (Nat.le_refl _)) (H2.out.2.2.size_le hW (Nat.le_refl _))).mono fun e w' q => ⟨q.1, (H2.out.1.trans (hW.mono (by have := H2.out.1.size; omega))).trans (q.2.mono (by have := H2.out.1.size; have := hW.size; omega))⟩
  have LL1 : Hid (∀ W, Below (w.heap.size + 1) W0 W → Calls Try.prog 7 #[.agg #[.int .i64 kd, .string na, .slice a0 nl c0, .slice a1 al c1, .string pr, .slice a2 nk c2]] W fun e w' => e = .returned (.string nm) ∧ Below (w.heap.size + 1) W0 w') := fun W hW => (L1.out W (HBX.out W hW).2).mono fun e w' q => ⟨q.1, hW.trans (q.2.mono (by have := hW.size; omega))⟩
  have LL2 : Hid (∀ W, Below (w.heap.size + 1) W0 W → Calls Try.prog 8 #[.agg #[.int .i64 kd, .string na, .slice a0 nl c0, .slice a1 al c1, .string pr, .slice a2 nk c2]] W fun e w' => e = .returned (.string nm) ∧ Below (w.heap.size + 1) W0 w') := fun W hW => (L2.out W (HBX.out W hW).2).mono fun e w' q => ⟨q.1, hW.trans (q.2.mono (by have := hW.size; omega))⟩
  go_wp2_with fail
  go_region_with (first
    | (go_at_call 6; refine (SM.out _ (by first | exact Below.refl _ _ | exact (Below.refl _ _).drew)).mono ?_; rintro e w3 ⟨rfl, hb3⟩; obtain ⟨z0, z1, z2, z3, z4, z5⟩ := HC.out _ hb3)
    | (go_at_call 7; refine (LL1.out _ (by first | exact hb3 | exact hb3.drew)).mono ?_; rintro e w4 ⟨rfl, hb4⟩; obtain ⟨y0, y1, y2, y3, y4, y5⟩ := HC.out _ hb4)
    | (go_at_call 8; refine (LL2.out _ (by first | exact hb4 | exact hb4.drew)).mono ?_; rintro e w5 ⟨rfl, hb5⟩))
  all_goals
    have H5 : Hid (Below w.heap.size w w5) := (HBX.out _ hb5).2
    clear z0 z1 z2 z3 z4 z5 y0 y1 y2 y3 y4 y5 hb3 hb4 hb5 v0 v1 v2 v3 v4 v5 SM LL1 LL2
    go_wp2_with fail
    refine (M1.out _ (by first | exact H5.out | exact H5.out.drew)).mono ?_
    rintro e w6 ⟨hb6, ma, mc, rfl, hm6⟩
    have H6 : Hid (Below w.heap.size w w6 ∧ Bns w6.heap.size w6 ma ms) := ⟨H5.out.trans (Below.trans (by first | exact Below.refl _ _ | exact (Below.refl _ _).drew) (hb6.mono H5.out.size)), hm6⟩
    clear hb6 hm6
    go_wp2_with fail
    refine (M2.out _ (H6.out.1.alloc H6.out.1.size _)).mono ?_
    rintro e w7 ⟨hb7, ka, kc, rfl, hm7⟩
    have fb : w7.heap[w6.heap.size]? = some (.cells #[.int .i64 m1, .int .i64 m2] 34 (0, 0)) := (hb7.block _ (by simp)).trans (heap_alloc_new w6 _)
    have hb67 : Below w6.heap.size w6 w7 := ((Below.refl _ _).alloc (Nat.le_refl _) _).trans (hb7.mono (by simp))
    have hlt7 : w6.heap.size < w7.heap.size := (Array.getElem?_eq_some_iff.1 fb).1
    have H7 : Hid (Below w.heap.size w w7 ∧ Bns w7.heap.size w7 ma ms ∧ Bns w7.heap.size w7 ka ms) := ⟨H6.out.1.trans (hb67.mono H6.out.1.size), H6.out.2.after (Nat.le_refl _) hb67, hm7⟩
    have f0 : w7.cell? ⟨w6.heap.size, 0, none⟩ = some (.int .i64 m1) := by simp only [World.cell?, fb]; rfl
    have f1 : w7.cell? ⟨w6.heap.size, 1, none⟩ = some (.int .i64 m2) := by simp only [World.cell?, fb]; rfl
    clear hb7 hb67 hm7 fb
    go_wp2_with fail
    refine (SameB_yes (w7.heap.size + 1) ms ma ka mc kc _ (H7.out.2.1.old (fun k hk => Below.heap_alloc w7 _ k hk) (Nat.le_succ _)) (H7.out.2.2.old (fun k hk => Below.heap_alloc w7 _ k hk) (Nat.le_succ _))).mono ?_
    rintro e w8 ⟨rfl, hb8⟩
    have H8 : Hid (Below w.heap.size w w8) := (H7.out.1.alloc H7.out.1.size _).trans (hb8.mono (by have := H7.out.1.size; simp; omega))
    clear hb8 f0 f1
    go_wp2_with fail
    go_ret
    exact ⟨rfl, H8.out⟩
end Go.Proofs.Ytckiihbnjfeplaa
