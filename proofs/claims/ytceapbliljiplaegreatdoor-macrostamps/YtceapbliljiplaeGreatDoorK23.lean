/- Package rule set: what a variable stands for, copied. Package rule set: what a variable stands for, copied, on. -/
import Derived.Test.YtceapbliljiplaeGreatDoorK22
namespace Go.Proofs.YtceapbliljiplaeGreatDoor
section
set_option linter.unusedVariables false
set_option linter.unusedSimpArgs false
open Go.RowKit Go.Maps Go.WideMaps

/-- A datum's block, the call's own. -/
structure Nod (N : Nat) (d : Dat) (v : Value) (w : World) : Prop where
  lt : N < w.heap.size
  q0 : w.cell? ⟨N, 0, none⟩ = some (.int .i64 d.kind)
  q1 : w.cell? ⟨N, 1, none⟩ = some (.int .i64 d.n)
  q2 : w.cell? ⟨N, 2, none⟩ = some (.string d.name)
  q3 : w.cell? ⟨N, 3, none⟩ = some (.int .i64 d.stamp)
  q4 : w.cell? ⟨N, 4, none⟩ = some (.int .i64 d.lib)
  q5 : w.cell? ⟨N, 5, none⟩ = some v
  z : ∀ j, w.frozen? ⟨N, j, none⟩ = false

section
variable {N : Nat} {d : Dat} {v : Value} {w w' : World}
theorem Nod.of_block (h : Nod N d v w) (hb : w'.heap[N]? = w.heap[N]?) (hs : N < w'.heap.size) : Nod N d v w' := by
  have e : ∀ q, w'.cell? ⟨N, q, none⟩ = w.cell? ⟨N, q, none⟩ := fun q => World.cell?_of_block hb
  exact ⟨hs, (e _).trans h.q0, (e _).trans h.q1, (e _).trans h.q2, (e _).trans h.q3, (e _).trans h.q4, (e _).trans h.q5, fun j => (World.frozen?_of_block hb).trans (h.z j)⟩
theorem Nod.after (h : Nod N d v w) (hb : Below w.heap.size w w') : Nod N d v w' := h.of_block (hb.block N h.lt) (Nat.lt_of_lt_of_le h.lt hb.size)
theorem Nod.below {B : Nat} (h : Nod N d v w) (hb : Below B w w') (hN : N < B) : Nod N d v w' := h.of_block (hb.block N hN) (Nat.lt_of_lt_of_le h.lt hb.size)
theorem Nod.keep {c : Nat} (h : Nod N d v w) (hb : Keep c w w') (hc : N ≠ c) : Nod N d v w' := h.of_block (hb.block N h.lt (by simpa using hc)) (Nat.lt_of_lt_of_le h.lt hb.size)
theorem Nod.grown {row : Option Nat} (h : Nod N d v w) (hg : w.grownBy w' row) (hr : some N ≠ row) : Nod N d v w' := h.of_block (hg.block N h.lt hr) (Nat.lt_of_lt_of_le h.lt hg.size)
theorem Nod.alloc (h : Nod N d v w) (o : Obj) : Nod N d v (w.alloc o) := h.after ((Below.refl _ _).alloc (Nat.le_refl _) _)
theorem Nod.made (w : World) (d : Dat) (v : Value) : Nod w.heap.size d v (w.alloc (.cells #[.int .i64 d.kind, .int .i64 d.n, .string d.name, .int .i64 d.stamp, .int .i64 d.lib, v] 28)) := by
  have q : ∀ j, (w.alloc (.cells #[.int .i64 d.kind, .int .i64 d.n, .string d.name, .int .i64 d.stamp, .int .i64 d.lib, v] 28)).cell? ⟨w.heap.size, j, none⟩ = _ := fun j => World.cell?_alloc_mark w _ 28 (0, 0) j
  exact ⟨by simp, q 0, q 1, q 2, q 3, q 4, q 5, fun j => by go_simp⟩
theorem Nod.set5 (h : Nod N d v w) (v' : Value) : Nod N d v' (w.setCell ⟨N, 5, none⟩ v') := by
  obtain ⟨l, q0, q1, q2, q3, q4, q5, z⟩ := h
  refine ⟨by simpa [World.setCell] using l, ?_, ?_, ?_, ?_, ?_, ?_, fun j => ?_⟩
  all_goals go_simp
  all_goals simp [*]
theorem Nod.store (h : Nod N d v w) (d' : Dat) (v' : Value) : Nod N d' v' ((((((w.setCell ⟨N, 0, none⟩ (.int .i64 d'.kind)).setCell ⟨N, 1, none⟩ (.int .i64 d'.n)).setCell ⟨N, 2, none⟩ (.string d'.name)).setCell ⟨N, 3, none⟩ (.int .i64 d'.stamp)).setCell ⟨N, 4, none⟩ (.int .i64 d'.lib)).setCell ⟨N, 5, none⟩ v') := by
  obtain ⟨l, q0, q1, q2, q3, q4, q5, z⟩ := h
  refine ⟨by simpa [World.setCell] using l, ?_, ?_, ?_, ?_, ?_, ?_, fun j => ?_⟩
  all_goals go_simp
  all_goals simp [*]
end

/-- All blocks are as they were, but for block c, of which only the first cell may change. -/
structure Kp (c : Nat) (a b : World) : Prop where
  lt : c < a.heap.size
  keep : Keep c a b
  rest : ∀ q, q ≠ 0 → b.cell? ⟨c, q, none⟩ = a.cell? ⟨c, q, none⟩
section
variable {c : Nat} {a b d : World}
theorem Kp.refl (h : c < a.heap.size) : Kp c a a := ⟨h, Keep.refl _ _, fun _ _ => rfl⟩
theorem Kp.lt' (h : Kp c a b) : c < b.heap.size := Nat.lt_of_lt_of_le h.lt h.keep.size
theorem Kp.trans (h : Kp c a b) (k : Kp c b d) : Kp c a d := ⟨h.lt, h.keep.trans k.keep, fun q hq => (k.rest q hq).trans (h.rest q hq)⟩
theorem Kp.below (h : Kp c a b) (k : Below b.heap.size b d) : Kp c a d := ⟨h.lt, h.keep.below k, fun q hq => (k.cell (p := ⟨c, q, none⟩) h.lt').trans (h.rest q hq)⟩
theorem Kp.alloc (h : Kp c a b) (o : Obj) : Kp c a (b.alloc o) := h.below ((Below.refl _ _).alloc (Nat.le_refl _) _)
theorem Kp.setZero (h : Kp c a b) (v : Value) : Kp c a (b.setCell ⟨c, 0, none⟩ v) := ⟨h.lt, h.keep.setCell _ rfl _, fun q hq => by
  rw [World.cell?_setCell_other]
  · exact h.rest q hq
  · intro e
    cases e
    exact hq rfl⟩
theorem Kp.setNew (h : Kp c a b) (p : Addr) (hp : a.heap.size ≤ p.block) (v : Value) : Kp c a (b.setCell p v) := ⟨h.lt, h.keep.setNew p hp v, fun q hq => (World.cell?_of_block (Below.heap_setCell _ _ _ _ (by have := h.lt; show c ≠ p.block; omega))).trans (h.rest q hq)⟩
theorem Kp.grown {row : Option Nat} (h : Kp c a b) (hg : b.grownBy d row) (hr : ∀ k, row = some k → a.heap.size ≤ k) : Kp c a d := ⟨h.lt, h.keep.grown hg hr, fun q hq => (World.cell?_of_block (hg.block c h.lt' (fun e => by have := hr c e.symm; have := h.lt; omega))).trans (h.rest q hq)⟩
theorem Kp.six {N : Nat} (h : Kp c a b) (hN : a.heap.size ≤ N) (v0 v1 v2 v3 v4 v5 : Value) :
    Kp c a ((((((b.setCell ⟨N, 0, none⟩ v0).setCell ⟨N, 1, none⟩ v1).setCell ⟨N, 2, none⟩ v2).setCell ⟨N, 3, none⟩ v3).setCell ⟨N, 4, none⟩ v4).setCell ⟨N, 5, none⟩ v5) :=
  (((((h.setNew ⟨N, 0, none⟩ hN _).setNew ⟨N, 1, none⟩ hN _).setNew ⟨N, 2, none⟩ hN _).setNew ⟨N, 3, none⟩ hN _).setNew ⟨N, 4, none⟩ hN _).setNew ⟨N, 5, none⟩ hN _
end

/-- What is promised of what grows. -/
def ToldG (gb : Nat) (ok : Bool) (d : Dat) (n : Nat) (w : World) (e : Ending) (w' : World) : Prop :=
  Kp gb w w' ∧ gb < w'.heap.size ∧ if ok then Ctr gb n w' ∧ ∃ a cap f, e = .returned (.tuple #[dv d a cap, .bool true]) ∧ d.kids.length ≤ cap ∧ Dc (New w w') w' f a d.kids else e = .returned (.tuple #[dv zeroD none 0, .bool false])

mutual
/-- No symbol is too long to be copied. -/
def smD : Dat → Prop
  | ⟨k, n, nm, st, lb, ks⟩ => (k = 3 → nm.size ≤ 281474976710656) ∧ (k = 4 → smL ks)
def smL : List Dat → Prop
  | [] => True
  | d :: r => smD d ∧ smL r
end
theorem smL_mem : ∀ (l : List Dat), smL l → ∀ d ∈ l, smD d
  | [], _, _, h => by cases h
  | x :: r, h, d, hd => by
    rw [smL] at h
    rcases List.mem_cons.1 hd with rfl | hd
    · exact h.1
    · exact smL_mem r h.2 d hd

theorem bareD_sole {d : Dat} (h : d.kind ≠ 4) : bareD d = soleD d := by
  obtain ⟨k, n, nm, st, lb, ks⟩ := d
  simp only at h
  simp only [bareD, soleD, if_neg h]
theorem bareD_name (d : Dat) (h : d.name.size ≤ maxLen) : (bareD d).name.size ≤ maxLen := by
  obtain ⟨k, n, nm, st, lb, ks⟩ := d
  simp only [bareD]
  split
  · exact Nat.zero_le _
  · split
    · exact h
    · split
      · exact Nat.zero_le _
      · exact Nat.zero_le _
theorem bareL_take_succ {ks : List Dat} {j : Nat} {kid : Dat} (h : ks[j]? = some kid) : bareL (ks.take (j + 1)) = bareL (ks.take j) ++ [bareD kid] := by
  rw [take_at h, bareL_map, bareL_map]
  simp
end
section
set_option linter.unusedVariables false
set_option linter.unusedSimpArgs false
open Go.RowKit Go.Maps Go.WideMaps

theorem cop_head {gb n : Nat} {d : Dat} {sl : Value} {w w1 : World} (hc : Ctr gb n w) (h : w1 = ((w.alloc (.cells #[.int .i64 d.kind, .int .i64 d.n, .string d.name, .int .i64 d.stamp, .int .i64 d.lib, sl] 28)).alloc (.cells #[.int .i64 0, .int .i64 0, .string ⟨#[]⟩, .int .i64 0, .int .i64 0, .slice none 0 0] 28)).setCell ⟨gb, 0, none⟩ (.int .i64 ((n + 1 : Nat) : Int))) :
    Kp gb w w1 ∧ Ctr gb (n + 1) w1 ∧ Nod w.heap.size d sl w1 ∧ Nod (w.heap.size + 1) zeroD (.slice none 0 0) w1 := by
  have hl := hc.lt
  subst h
  refine ⟨(((Kp.refl hl).alloc _).alloc _).setZero _, ((hc.alloc _).alloc _).at (n + 1), ?_, ?_⟩
  · exact ((Nod.made w d sl).alloc _).keep ((Keep.refl gb _).setCell ⟨gb, 0, none⟩ rfl _) (by omega)
  · have h1 := Nod.made (w.alloc (.cells #[.int .i64 d.kind, .int .i64 d.n, .string d.name, .int .i64 d.stamp, .int .i64 d.lib, sl] 28)) zeroD (.slice none 0 0)
    have h2 : (w.alloc (.cells #[.int .i64 d.kind, .int .i64 d.n, .string d.name, .int .i64 d.stamp, .int .i64 d.lib, sl] 28)).heap.size = w.heap.size + 1 := by simp
    rw [h2] at h1
    exact h1.keep ((Keep.refl gb _).setCell ⟨gb, 0, none⟩ rfl _) (by omega)

theorem sizeL_many : ∀ (l : List Dat), l.length ≤ sizeL l
  | [] => Nat.zero_le _
  | d :: r => by
    have := sizeL_many r
    have := sizeD_pos d
    rw [sizeL, List.length_cons]
    omega

section
variable {N b : Nat} {w : World} {v0 v1 v2 v3 v4 v5 : Value}
def setSix (w : World) (N : Nat) (v0 v1 v2 v3 v4 v5 : Value) : World := (((((w.setCell ⟨N, 0, none⟩ v0).setCell ⟨N, 1, none⟩ v1).setCell ⟨N, 2, none⟩ v2).setCell ⟨N, 3, none⟩ v3).setCell ⟨N, 4, none⟩ v4).setCell ⟨N, 5, none⟩ v5
theorem Ctr.six {n : Nat} (h : Ctr b n w) (hb : b ≠ N) : Ctr b n (setSix w N v0 v1 v2 v3 v4 v5) := by
  obtain ⟨W, hW⟩ : ∃ W, W = setSix w N v0 v1 v2 v3 v4 v5 := ⟨_, rfl⟩
  have hh := six_heap w N v0 v1 v2 v3 v4 v5
  have h1 : W.heap[b]? = w.heap[b]? := by rw [hW]; exact hh.1 b hb
  have h2 : W.heap.size = w.heap.size := by rw [hW]; exact hh.2
  rw [← hW]
  exact ⟨by rw [h2]; exact h.lt, (World.cell?_of_block h1).trans h.cell, (World.frozen?_of_block h1).trans h.thaw⟩
theorem Nod.six {d : Dat} {v : Value} (h : Nod b d v w) (hb : b ≠ N) : Nod b d v (setSix w N v0 v1 v2 v3 v4 v5) := by
  have hh := six_heap w N v0 v1 v2 v3 v4 v5
  exact h.of_block (hh.1 b hb) (by unfold setSix; rw [hh.2]; exact h.lt)
end

theorem addr_add (b q : Nat) : (⟨b, 0, none⟩ : Addr).add q = ⟨b, q, none⟩ := by unfold Addr.add; split <;> simp_all
theorem ret89 {ts : Array Value} {W : World} {R : Nat} {d : Dat} {v b : Value} (h : Nod R d v W) (h6 : ts[6]? = some (.pointer (some ⟨R, 0, none⟩))) (h7 : ts[7]? = some b) :
    (results Tryz.f89 ts).run Tryz.prog W = .ok (.tuple #[.agg #[.int .i64 d.kind, .int .i64 d.n, .string d.name, .int .i64 d.stamp, .int .i64 d.lib, v], b]) W := by
  obtain ⟨q, q0, q1, q2, q3, q4, q5, qz⟩ := h
  simp [results, Tryz.results89, go_sem, h6, h7, q0, q1, q2, q3, q4, q5]

/-- What a round of copying knows. -/
structure CopL (B gb N : Nat) (w : World) (n dp : Nat) (n' : Int) (nm : ByteArray) (st lb : Int) (ks : List Dat) (a : Option Addr) (cap : Nat) (j : Nat) (v : Value) (es : List (Dat × Option Addr × Nat)) (wr : World) : Prop where
  keep : Kp gb w wr
  ctr : Ctr gb (n + 1 + sizeL (ks.take j)) wr
  box : Nod N ⟨4, n', nm, st, lb, ks⟩ (.slice a ks.length cap) wr
  out : Nod (N + 1) ⟨4, 0, emS, 0, 0, []⟩ v wr
  row : RowC (N + 2) v es wr
  same : es.map (·.1) = bareL (ks.take j)
  holds : holdsL (n + 1) (dp + 1) (ks.take j) = true

set_option maxRecDepth 100000 in
set_option maxHeartbeats 1600000 in
theorem copied_no (d : Dat) (a : Option Addr) (cap gb n dp : Nat) (w : World) (hn : n ≤ 2000) (hd : dp ≤ 41) (hx : n = 2000 ∨ dp = 41) (hc : Ctr gb n w) :
    Calls Tryz.prog 89 #[.pointer (some ⟨gb, 0, none⟩), dv d a cap, .int .i64 (dp : Int)] w (ToldG gb (holdsB n dp d) (bareD d) (n + sizeD d) w) := by
  have hsp := sizeD_pos d
  have hdp := deepD_pos d
  have HC : Hid (Ctr gb n w) := hc
  have l1 := hc.lt
  clear hc
  have hf : holdsB n dp d = false := by unfold holdsB; simp; omega
  rw [hf]
  obtain ⟨k, n', nm, st, lb, ks⟩ := d
  unfold dv
  clear hf hsp hdp
  go_enter Tryz.func89, Tryz.ntmps89
  go_wp2_with fail
  refine (takes_no gb n dp _ hn hd hx ((HC.out.alloc _).alloc _)).mono ?_
  rintro e w1 ⟨rfl, hw1⟩
  have NO : Hid (Nod (w.heap.size + 1) zeroD (.slice none 0 0) w1) := by
    have h1 := Nod.made (w.alloc (.cells #[.int .i64 k, .int .i64 n', .string nm, .int .i64 st, .int .i64 lb, .slice a ks.length cap] 28)) zeroD (.slice none 0 0)
    have h2 : (w.alloc (.cells #[.int .i64 k, .int .i64 n', .string nm, .int .i64 st, .int .i64 lb, .slice a ks.length cap] 28)).heap.size = w.heap.size + 1 := by simp
    rw [h2] at h1
    exact h1.keep (by rw [hw1]; exact ((Keep.refl gb _).setCell _ rfl _)) (by omega)
  have HK : Hid (Kp gb w w1 ∧ gb < w1.heap.size) := by
    rw [hw1]
    exact ⟨(((Kp.refl l1).alloc _).alloc _).setZero _, by simp [World.setCell]; omega⟩
  clear hw1
  obtain ⟨q, q0, q1, q2, q3, q4, q5, qz⟩ := NO.out
  simp only [zeroD, emS] at q0 q1 q2 q3 q4 q5
  go_wp2_with fail
  refine bodyPost_ret (ret89 (NO.out.store zeroD (.slice none 0 0)) rfl rfl) rfl ?_
  refine ⟨HK.out.1.six (by omega) _ _ _ _ _ _, ?_, ?_⟩
  · simp [World.setCell]
    exact HK.out.2
  · rfl

set_option maxRecDepth 100000 in
set_option maxHeartbeats 1600000 in
theorem copied_leaf (d : Dat) (a : Option Addr) (cap gb n dp : Nat) (w : World) (hsm : smD d) (hn9 : n ≤ 1999) (hd40 : dp ≤ 40) (hc : Ctr gb n w) (hk : ¬ d.kind = 4) :
    Calls Tryz.prog 89 #[.pointer (some ⟨gb, 0, none⟩), dv d a cap, .int .i64 (dp : Int)] w (ToldG gb (holdsB n dp d) (bareD d) (n + sizeD d) w) := by
  have hsp := sizeD_pos d
  have hdp := deepD_pos d
  have HC : Hid (Ctr gb n w) := hc
  have l1 := hc.lt
  clear hc
  have hs : sizeD d = 1 := by
    obtain ⟨k, n', nm, st, lb, ks⟩ := d
    rw [sizeD, if_neg hk]
  have hb : holdsB n dp d = true := by
    obtain ⟨k, n', nm, st, lb, ks⟩ := d
    unfold holdsB
    rw [hs, deepD, if_neg hk]
    simp
    omega
  have AL : Hid (∀ w, Calls Tryz.prog 91 #[dv d a cap] w fun e w' => e = .returned (dv (soleD d) none 0) ∧ Below w.heap.size w w') := fun w => alone_any d a cap w (fun h => by
    obtain ⟨k, n', nm, st, lb, ks⟩ := d
    rw [smD] at hsm
    exact hsm.1 h)
  rw [hs, hb, bareD_sole hk]
  have hkids : (soleD d).kids = [] := by
    obtain ⟨k, n', nm, st, lb, ks⟩ := d
    simp only [soleD]
    split
    · rfl
    · split <;> rfl
  obtain ⟨d2, hd2⟩ : ∃ d2, d2 = soleD d := ⟨_, rfl⟩
  rw [← hd2] at AL hkids ⊢
  obtain ⟨k, n', nm, st, lb, ks⟩ := d
  obtain ⟨k2, n2, nm2, st2, lb2, ks2⟩ := d2
  simp only at hkids hk
  subst hkids
  have hk' : (k != 4) = true := by simpa using hk
  unfold dv at AL ⊢
  simp only [List.length_nil] at AL ⊢
  clear hs hb hsp hdp hsm hd2
  go_enter Tryz.func89, Tryz.ntmps89
  go_wp2_with fail
  refine (takes_ok gb n dp _ hn9 hd40 ((HC.out.alloc _).alloc _)).mono ?_
  rintro e w1 ⟨rfl, hw1⟩
  obtain ⟨hk1, hc1, hn1, hn2⟩ := cop_head (d := ⟨k, n', nm, st, lb, ks⟩) (sl := .slice a ks.length cap) HC.out hw1
  clear hw1
  have H1 : Hid (Kp gb w w1 ∧ Ctr gb (n + 1) w1 ∧ Nod w.heap.size ⟨k, n', nm, st, lb, ks⟩ (.slice a ks.length cap) w1 ∧ Nod (w.heap.size + 1) zeroD (.slice none 0 0) w1) := ⟨hk1, hc1, hn1, hn2⟩
  obtain ⟨p, p0, p1, p2, p3, p4, p5, pz⟩ := hn1
  simp only at p0 p1 p2 p3 p4 p5
  clear hn2 hc1 hk1
  go_wp2_with fail
  refine (AL.out _).mono ?_
  rintro e w2 ⟨rfl, hb2⟩
  have H2 : Hid (Kp gb w w2 ∧ Ctr gb (n + 1) w2 ∧ Nod w.heap.size ⟨k, n', nm, st, lb, ks⟩ (.slice a ks.length cap) w2 ∧ Nod (w.heap.size + 1) zeroD (.slice none 0 0) w2) := ⟨H1.out.1.below hb2, H1.out.2.1.below hb2, H1.out.2.2.1.after hb2, H1.out.2.2.2.after hb2⟩
  clear hb2 H1 AL p p0 p1 p2 p3 p4 p5 pz
  obtain ⟨p, p0, p1, p2, p3, p4, p5, pz⟩ := H2.out.2.2.1
  obtain ⟨q, q0, q1, q2, q3, q4, q5, qz⟩ := H2.out.2.2.2
  simp only [zeroD, emS] at p0 p1 p2 p3 p4 p5 q0 q1 q2 q3 q4 q5
  go_wp2_with fail
  refine bodyPost_ret (ret89 (R := w.heap.size + 1) (d := ⟨k2, n2, nm2, st2, lb2, []⟩) (v := .slice none 0 0) (b := .bool true) ?nod rfl rfl) rfl ?_
  case nod => exact (H2.out.2.2.2.store ⟨k2, n2, nm2, st2, lb2, []⟩ (.slice none 0 0)).store ⟨k2, n2, nm2, st2, lb2, []⟩ (.slice none 0 0)
  refine ⟨(H2.out.1.six (by omega) _ _ _ _ _ _).six (by omega) _ _ _ _ _ _, ?_, ?_⟩
  · have := H2.out.2.1.lt
    simpa [World.setCell] using this
  · rw [if_pos rfl]
    refine ⟨?_, none, 0, 0, rfl, Nat.le_refl _, rfl⟩
    have h1 := H2.out.2.1.six (N := w.heap.size + 1) (v0 := .int .i64 k2) (v1 := .int .i64 n2) (v2 := .string nm2) (v3 := .int .i64 st2) (v4 := .int .i64 lb2) (v5 := .slice none 0 0) (by omega)
    have h2 := h1.six (N := w.heap.size + 1) (v0 := .int .i64 k2) (v1 := .int .i64 n2) (v2 := .string nm2) (v3 := .int .i64 st2) (v4 := .int .i64 lb2) (v5 := .slice none 0 0) (by omega)
    exact h2
end
end Go.Proofs.YtceapbliljiplaeGreatDoor
