/- Package rule set: what a variable stands for, copied. Package rule set: what a variable stands for, copied, on. Package rule set: a list that a variable stands for, copied. Package rule set: what a variable stands for, copied: all. -/
import Derived.Test.YtgeedaabdonjcaeGreatDoorK20
namespace Go.Proofs.YtgeedaabdonjcaeGreatDoor
section
set_option linter.unusedVariables false
set_option linter.unusedSimpArgs false
open Go.RowKit Go.Maps Go.WideMaps

/-- A datum's block, the call's own. -/
structure Nod (N : Nat) (d : Dat) (v : Value) (w : World) : Prop where
  lt : N < w.heap.size
  q0 : w.cell? ⟨N, 0, none⟩ = some (.int .i64 d.kind)
  q1 : w.cell? ⟨N, 1, none⟩ = some (.int .i64 d.n)
  q2 : w.cell? ⟨N, 2, none⟩ = some (.string d.name)
  q3 : w.cell? ⟨N, 3, none⟩ = some (.int .i64 d.stamp)
  q4 : w.cell? ⟨N, 4, none⟩ = some (.int .i64 d.lib)
  q5 : w.cell? ⟨N, 5, none⟩ = some v
  z : ∀ j, w.frozen? ⟨N, j, none⟩ = false

section
variable {N : Nat} {d : Dat} {v : Value} {w w' : World}
theorem Nod.of_block (h : Nod N d v w) (hb : w'.heap[N]? = w.heap[N]?) (hs : N < w'.heap.size) : Nod N d v w' := by
  have e : ∀ q, w'.cell? ⟨N, q, none⟩ = w.cell? ⟨N, q, none⟩ := fun q => World.cell?_of_block hb
  exact ⟨hs, (e _).trans h.q0, (e _).trans h.q1, (e _).trans h.q2, (e _).trans h.q3, (e _).trans h.q4, (e _).trans h.q5, fun j => (World.frozen?_of_block hb).trans (h.z j)⟩
theorem Nod.after (h : Nod N d v w) (hb : Below w.heap.size w w') : Nod N d v w' := h.of_block (hb.block N h.lt) (Nat.lt_of_lt_of_le h.lt hb.size)
theorem Nod.below {B : Nat} (h : Nod N d v w) (hb : Below B w w') (hN : N < B) : Nod N d v w' := h.of_block (hb.block N hN) (Nat.lt_of_lt_of_le h.lt hb.size)
theorem Nod.keep {c : Nat} (h : Nod N d v w) (hb : Keep c w w') (hc : N ≠ c) : Nod N d v w' := h.of_block (hb.block N h.lt (by simpa using hc)) (Nat.lt_of_lt_of_le h.lt hb.size)
theorem Nod.grown {row : Option Nat} (h : Nod N d v w) (hg : w.grownBy w' row) (hr : some N ≠ row) : Nod N d v w' := h.of_block (hg.block N h.lt hr) (Nat.lt_of_lt_of_le h.lt hg.size)
theorem Nod.alloc (h : Nod N d v w) (o : Obj) : Nod N d v (w.alloc o) := h.after ((Below.refl _ _).alloc (Nat.le_refl _) _)
theorem Nod.made (w : World) (d : Dat) (v : Value) : Nod w.heap.size d v (w.alloc (.cells #[.int .i64 d.kind, .int .i64 d.n, .string d.name, .int .i64 d.stamp, .int .i64 d.lib, v] 28)) := by
  have q : ∀ j, (w.alloc (.cells #[.int .i64 d.kind, .int .i64 d.n, .string d.name, .int .i64 d.stamp, .int .i64 d.lib, v] 28)).cell? ⟨w.heap.size, j, none⟩ = _ := fun j => World.cell?_alloc_mark w _ 28 (0, 0) j
  exact ⟨by simp, q 0, q 1, q 2, q 3, q 4, q 5, fun j => by go_simp⟩
theorem Nod.set5 (h : Nod N d v w) (v' : Value) : Nod N d v' (w.setCell ⟨N, 5, none⟩ v') := by
  obtain ⟨l, q0, q1, q2, q3, q4, q5, z⟩ := h
  refine ⟨by simpa [World.setCell] using l, ?_, ?_, ?_, ?_, ?_, ?_, fun j => ?_⟩
  all_goals go_simp
  all_goals simp [*]
theorem Nod.store (h : Nod N d v w) (d' : Dat) (v' : Value) : Nod N d' v' ((((((w.setCell ⟨N, 0, none⟩ (.int .i64 d'.kind)).setCell ⟨N, 1, none⟩ (.int .i64 d'.n)).setCell ⟨N, 2, none⟩ (.string d'.name)).setCell ⟨N, 3, none⟩ (.int .i64 d'.stamp)).setCell ⟨N, 4, none⟩ (.int .i64 d'.lib)).setCell ⟨N, 5, none⟩ v') := by
  obtain ⟨l, q0, q1, q2, q3, q4, q5, z⟩ := h
  refine ⟨by simpa [World.setCell] using l, ?_, ?_, ?_, ?_, ?_, ?_, fun j => ?_⟩
  all_goals go_simp
  all_goals simp [*]
end

/-- All blocks are as they were, but for block c, of which only the first cell may change. -/
structure Kp (c : Nat) (a b : World) : Prop where
  lt : c < a.heap.size
  keep : Keep c a b
  rest : ∀ q, q ≠ 0 → b.cell? ⟨c, q, none⟩ = a.cell? ⟨c, q, none⟩
section
variable {c : Nat} {a b d : World}
theorem Kp.refl (h : c < a.heap.size) : Kp c a a := ⟨h, Keep.refl _ _, fun _ _ => rfl⟩
theorem Kp.lt' (h : Kp c a b) : c < b.heap.size := Nat.lt_of_lt_of_le h.lt h.keep.size
theorem Kp.trans (h : Kp c a b) (k : Kp c b d) : Kp c a d := ⟨h.lt, h.keep.trans k.keep, fun q hq => (k.rest q hq).trans (h.rest q hq)⟩
theorem Kp.below (h : Kp c a b) (k : Below b.heap.size b d) : Kp c a d := ⟨h.lt, h.keep.below k, fun q hq => (k.cell (p := ⟨c, q, none⟩) h.lt').trans (h.rest q hq)⟩
theorem Kp.alloc (h : Kp c a b) (o : Obj) : Kp c a (b.alloc o) := h.below ((Below.refl _ _).alloc (Nat.le_refl _) _)
theorem Kp.setZero (h : Kp c a b) (v : Value) : Kp c a (b.setCell ⟨c, 0, none⟩ v) := ⟨h.lt, h.keep.setCell _ rfl _, fun q hq => by
  rw [World.cell?_setCell_other]
  · exact h.rest q hq
  · intro e
    cases e
    exact hq rfl⟩
theorem Kp.setNew (h : Kp c a b) (p : Addr) (hp : a.heap.size ≤ p.block) (v : Value) : Kp c a (b.setCell p v) := ⟨h.lt, h.keep.setNew p hp v, fun q hq => (World.cell?_of_block (Below.heap_setCell _ _ _ _ (by have := h.lt; show c ≠ p.block; omega))).trans (h.rest q hq)⟩
theorem Kp.grown {row : Option Nat} (h : Kp c a b) (hg : b.grownBy d row) (hr : ∀ k, row = some k → a.heap.size ≤ k) : Kp c a d := ⟨h.lt, h.keep.grown hg hr, fun q hq => (World.cell?_of_block (hg.block c h.lt' (fun e => by have := hr c e.symm; have := h.lt; omega))).trans (h.rest q hq)⟩
theorem Kp.six {N : Nat} (h : Kp c a b) (hN : a.heap.size ≤ N) (v0 v1 v2 v3 v4 v5 : Value) :
    Kp c a ((((((b.setCell ⟨N, 0, none⟩ v0).setCell ⟨N, 1, none⟩ v1).setCell ⟨N, 2, none⟩ v2).setCell ⟨N, 3, none⟩ v3).setCell ⟨N, 4, none⟩ v4).setCell ⟨N, 5, none⟩ v5) :=
  (((((h.setNew ⟨N, 0, none⟩ hN _).setNew ⟨N, 1, none⟩ hN _).setNew ⟨N, 2, none⟩ hN _).setNew ⟨N, 3, none⟩ hN _).setNew ⟨N, 4, none⟩ hN _).setNew ⟨N, 5, none⟩ hN _
end

/-- What is promised of what grows. -/
def ToldG (gb : Nat) (ok : Bool) (d : Dat) (n : Nat) (w : World) (e : Ending) (w' : World) : Prop :=
  Kp gb w w' ∧ gb < w'.heap.size ∧ if ok then Ctr gb n w' ∧ ∃ a cap f, e = .returned (.tuple #[dv d a cap, .bool true]) ∧ d.kids.length ≤ cap ∧ Dc (New w w') w' f a d.kids else e = .returned (.tuple #[dv zeroD none 0, .bool false])

mutual
/-- No symbol is too long to be copied. -/
def smD : Dat → Prop
  | ⟨k, n, nm, st, lb, ks⟩ => (k = 3 → nm.size ≤ 281474976710656) ∧ (k = 4 → smL ks)
def smL : List Dat → Prop
  | [] => True
  | d :: r => smD d ∧ smL r
end
theorem smL_mem : ∀ (l : List Dat), smL l → ∀ d ∈ l, smD d
  | [], _, _, h => by cases h
  | x :: r, h, d, hd => by
    rw [smL] at h
    rcases List.mem_cons.1 hd with rfl | hd
    · exact h.1
    · exact smL_mem r h.2 d hd

theorem bareD_sole {d : Dat} (h : d.kind ≠ 4) : bareD d = soleD d := by
  obtain ⟨k, n, nm, st, lb, ks⟩ := d
  simp only at h
  simp only [bareD, soleD, if_neg h]
theorem bareD_name (d : Dat) (h : d.name.size ≤ maxLen) : (bareD d).name.size ≤ maxLen := by
  obtain ⟨k, n, nm, st, lb, ks⟩ := d
  simp only [bareD]
  split
  · exact Nat.zero_le _
  · split
    · exact h
    · split
      · exact Nat.zero_le _
      · exact Nat.zero_le _
theorem bareL_take_succ {ks : List Dat} {j : Nat} {kid : Dat} (h : ks[j]? = some kid) : bareL (ks.take (j + 1)) = bareL (ks.take j) ++ [bareD kid] := by
  rw [take_at h, bareL_map, bareL_map]
  simp
end
section
set_option linter.unusedVariables false
set_option linter.unusedSimpArgs false
open Go.RowKit Go.Maps Go.WideMaps

theorem cop_head {gb n : Nat} {d : Dat} {sl : Value} {w w1 : World} (hc : Ctr gb n w) (h : w1 = ((w.alloc (.cells #[.int .i64 d.kind, .int .i64 d.n, .string d.name, .int .i64 d.stamp, .int .i64 d.lib, sl] 28)).alloc (.cells #[.int .i64 0, .int .i64 0, .string ⟨#[]⟩, .int .i64 0, .int .i64 0, .slice none 0 0] 28)).setCell ⟨gb, 0, none⟩ (.int .i64 ((n + 1 : Nat) : Int))) :
    Kp gb w w1 ∧ Ctr gb (n + 1) w1 ∧ Nod w.heap.size d sl w1 ∧ Nod (w.heap.size + 1) zeroD (.slice none 0 0) w1 := by
  have hl := hc.lt
  subst h
  refine ⟨(((Kp.refl hl).alloc _).alloc _).setZero _, ((hc.alloc _).alloc _).at (n + 1), ?_, ?_⟩
  · exact ((Nod.made w d sl).alloc _).keep ((Keep.refl gb _).setCell ⟨gb, 0, none⟩ rfl _) (by omega)
  · have h1 := Nod.made (w.alloc (.cells #[.int .i64 d.kind, .int .i64 d.n, .string d.name, .int .i64 d.stamp, .int .i64 d.lib, sl] 28)) zeroD (.slice none 0 0)
    have h2 : (w.alloc (.cells #[.int .i64 d.kind, .int .i64 d.n, .string d.name, .int .i64 d.stamp, .int .i64 d.lib, sl] 28)).heap.size = w.heap.size + 1 := by simp
    rw [h2] at h1
    exact h1.keep ((Keep.refl gb _).setCell ⟨gb, 0, none⟩ rfl _) (by omega)

theorem sizeL_many : ∀ (l : List Dat), l.length ≤ sizeL l
  | [] => Nat.zero_le _
  | d :: r => by
    have := sizeL_many r
    have := sizeD_pos d
    rw [sizeL, List.length_cons]
    omega

section
variable {N b : Nat} {w : World} {v0 v1 v2 v3 v4 v5 : Value}
def setSix (w : World) (N : Nat) (v0 v1 v2 v3 v4 v5 : Value) : World := (((((w.setCell ⟨N, 0, none⟩ v0).setCell ⟨N, 1, none⟩ v1).setCell ⟨N, 2, none⟩ v2).setCell ⟨N, 3, none⟩ v3).setCell ⟨N, 4, none⟩ v4).setCell ⟨N, 5, none⟩ v5
theorem Ctr.six {n : Nat} (h : Ctr b n w) (hb : b ≠ N) : Ctr b n (setSix w N v0 v1 v2 v3 v4 v5) := by
  obtain ⟨W, hW⟩ : ∃ W, W = setSix w N v0 v1 v2 v3 v4 v5 := ⟨_, rfl⟩
  have hh := six_heap w N v0 v1 v2 v3 v4 v5
  have h1 : W.heap[b]? = w.heap[b]? := by rw [hW]; exact hh.1 b hb
  have h2 : W.heap.size = w.heap.size := by rw [hW]; exact hh.2
  rw [← hW]
  exact ⟨by rw [h2]; exact h.lt, (World.cell?_of_block h1).trans h.cell, (World.frozen?_of_block h1).trans h.thaw⟩
theorem Nod.six {d : Dat} {v : Value} (h : Nod b d v w) (hb : b ≠ N) : Nod b d v (setSix w N v0 v1 v2 v3 v4 v5) := by
  have hh := six_heap w N v0 v1 v2 v3 v4 v5
  exact h.of_block (hh.1 b hb) (by unfold setSix; rw [hh.2]; exact h.lt)
end

theorem addr_add (b q : Nat) : (⟨b, 0, none⟩ : Addr).add q = ⟨b, q, none⟩ := by unfold Addr.add; split <;> simp_all
theorem ret89 {ts : Array Value} {W : World} {R : Nat} {d : Dat} {v b : Value} (h : Nod R d v W) (h6 : ts[6]? = some (.pointer (some ⟨R, 0, none⟩))) (h7 : ts[7]? = some b) :
    (results Tryz.f89 ts).run Tryz.prog W = .ok (.tuple #[.agg #[.int .i64 d.kind, .int .i64 d.n, .string d.name, .int .i64 d.stamp, .int .i64 d.lib, v], b]) W := by
  obtain ⟨q, q0, q1, q2, q3, q4, q5, qz⟩ := h
  simp [results, Tryz.results89, go_sem, h6, h7, q0, q1, q2, q3, q4, q5]

/-- What a round of copying knows. -/
structure CopL (B gb N : Nat) (w : World) (n dp : Nat) (n' : Int) (nm : ByteArray) (st lb : Int) (ks : List Dat) (a : Option Addr) (cap : Nat) (j : Nat) (v : Value) (es : List (Dat × Option Addr × Nat)) (wr : World) : Prop where
  keep : Kp gb w wr
  ctr : Ctr gb (n + 1 + sizeL (ks.take j)) wr
  box : Nod N ⟨4, n', nm, st, lb, ks⟩ (.slice a ks.length cap) wr
  out : Nod (N + 1) ⟨4, 0, emS, 0, 0, []⟩ v wr
  row : RowC (N + 2) v es wr
  same : es.map (·.1) = bareL (ks.take j)
  holds : holdsL (n + 1) (dp + 1) (ks.take j) = true

set_option maxRecDepth 100000 in
set_option maxHeartbeats 1600000 in
theorem copied_no (d : Dat) (a : Option Addr) (cap gb n dp : Nat) (w : World) (hn : n ≤ 2000) (hd : dp ≤ 41) (hx : n = 2000 ∨ dp = 41) (hc : Ctr gb n w) :
    Calls Tryz.prog 89 #[.pointer (some ⟨gb, 0, none⟩), dv d a cap, .int .i64 (dp : Int)] w (ToldG gb (holdsB n dp d) (bareD d) (n + sizeD d) w) := by
  have hsp := sizeD_pos d
  have hdp := deepD_pos d
  have HC : Hid (Ctr gb n w) := hc
  have l1 := hc.lt
  clear hc
  have hf : holdsB n dp d = false := by unfold holdsB; simp; omega
  rw [hf]
  obtain ⟨k, n', nm, st, lb, ks⟩ := d
  unfold dv
  clear hf hsp hdp
  go_enter Tryz.func89, Tryz.ntmps89
  go_wp2_with fail
  refine (takes_no gb n dp _ hn hd hx ((HC.out.alloc _).alloc _)).mono ?_
  rintro e w1 ⟨rfl, hw1⟩
  have NO : Hid (Nod (w.heap.size + 1) zeroD (.slice none 0 0) w1) := by
    have h1 := Nod.made (w.alloc (.cells #[.int .i64 k, .int .i64 n', .string nm, .int .i64 st, .int .i64 lb, .slice a ks.length cap] 28)) zeroD (.slice none 0 0)
    have h2 : (w.alloc (.cells #[.int .i64 k, .int .i64 n', .string nm, .int .i64 st, .int .i64 lb, .slice a ks.length cap] 28)).heap.size = w.heap.size + 1 := by simp
    rw [h2] at h1
    exact h1.keep (by rw [hw1]; exact ((Keep.refl gb _).setCell _ rfl _)) (by omega)
  have HK : Hid (Kp gb w w1 ∧ gb < w1.heap.size) := by
    rw [hw1]
    exact ⟨(((Kp.refl l1).alloc _).alloc _).setZero _, by simp [World.setCell]; omega⟩
  clear hw1
  obtain ⟨q, q0, q1, q2, q3, q4, q5, qz⟩ := NO.out
  simp only [zeroD, emS] at q0 q1 q2 q3 q4 q5
  go_wp2_with fail
  refine bodyPost_ret (ret89 (NO.out.store zeroD (.slice none 0 0)) rfl rfl) rfl ?_
  refine ⟨HK.out.1.six (by omega) _ _ _ _ _ _, ?_, ?_⟩
  · simp [World.setCell]
    exact HK.out.2
  · rfl

set_option maxRecDepth 100000 in
set_option maxHeartbeats 1600000 in
theorem copied_leaf (d : Dat) (a : Option Addr) (cap gb n dp : Nat) (w : World) (hsm : smD d) (hn9 : n ≤ 1999) (hd40 : dp ≤ 40) (hc : Ctr gb n w) (hk : ¬ d.kind = 4) :
    Calls Tryz.prog 89 #[.pointer (some ⟨gb, 0, none⟩), dv d a cap, .int .i64 (dp : Int)] w (ToldG gb (holdsB n dp d) (bareD d) (n + sizeD d) w) := by
  have hsp := sizeD_pos d
  have hdp := deepD_pos d
  have HC : Hid (Ctr gb n w) := hc
  have l1 := hc.lt
  clear hc
  have hs : sizeD d = 1 := by
    obtain ⟨k, n', nm, st, lb, ks⟩ := d
    rw [sizeD, if_neg hk]
  have hb : holdsB n dp d = true := by
    obtain ⟨k, n', nm, st, lb, ks⟩ := d
    unfold holdsB
    rw [hs, deepD, if_neg hk]
    simp
    omega
  have AL : Hid (∀ w, Calls Tryz.prog 91 #[dv d a cap] w fun e w' => e = .returned (dv (soleD d) none 0) ∧ Below w.heap.size w w') := fun w => alone_any d a cap w (fun h => by
    obtain ⟨k, n', nm, st, lb, ks⟩ := d
    rw [smD] at hsm
    exact hsm.1 h)
  rw [hs, hb, bareD_sole hk]
  have hkids : (soleD d).kids = [] := by
    obtain ⟨k, n', nm, st, lb, ks⟩ := d
    simp only [soleD]
    split
    · rfl
    · split <;> rfl
  obtain ⟨d2, hd2⟩ : ∃ d2, d2 = soleD d := ⟨_, rfl⟩
  rw [← hd2] at AL hkids ⊢
  obtain ⟨k, n', nm, st, lb, ks⟩ := d
  obtain ⟨k2, n2, nm2, st2, lb2, ks2⟩ := d2
  simp only at hkids hk
  subst hkids
  have hk' : (k != 4) = true := by simpa using hk
  unfold dv at AL ⊢
  simp only [List.length_nil] at AL ⊢
  clear hs hb hsp hdp hsm hd2
  go_enter Tryz.func89, Tryz.ntmps89
  go_wp2_with fail
  refine (takes_ok gb n dp _ hn9 hd40 ((HC.out.alloc _).alloc _)).mono ?_
  rintro e w1 ⟨rfl, hw1⟩
  obtain ⟨hk1, hc1, hn1, hn2⟩ := cop_head (d := ⟨k, n', nm, st, lb, ks⟩) (sl := .slice a ks.length cap) HC.out hw1
  clear hw1
  have H1 : Hid (Kp gb w w1 ∧ Ctr gb (n + 1) w1 ∧ Nod w.heap.size ⟨k, n', nm, st, lb, ks⟩ (.slice a ks.length cap) w1 ∧ Nod (w.heap.size + 1) zeroD (.slice none 0 0) w1) := ⟨hk1, hc1, hn1, hn2⟩
  obtain ⟨p, p0, p1, p2, p3, p4, p5, pz⟩ := hn1
  simp only at p0 p1 p2 p3 p4 p5
  clear hn2 hc1 hk1
  go_wp2_with fail
  refine (AL.out _).mono ?_
  rintro e w2 ⟨rfl, hb2⟩
  have H2 : Hid (Kp gb w w2 ∧ Ctr gb (n + 1) w2 ∧ Nod w.heap.size ⟨k, n', nm, st, lb, ks⟩ (.slice a ks.length cap) w2 ∧ Nod (w.heap.size + 1) zeroD (.slice none 0 0) w2) := ⟨H1.out.1.below hb2, H1.out.2.1.below hb2, H1.out.2.2.1.after hb2, H1.out.2.2.2.after hb2⟩
  clear hb2 H1 AL p p0 p1 p2 p3 p4 p5 pz
  obtain ⟨p, p0, p1, p2, p3, p4, p5, pz⟩ := H2.out.2.2.1
  obtain ⟨q, q0, q1, q2, q3, q4, q5, qz⟩ := H2.out.2.2.2
  simp only [zeroD, emS] at p0 p1 p2 p3 p4 p5 q0 q1 q2 q3 q4 q5
  go_wp2_with fail
  refine bodyPost_ret (ret89 (R := w.heap.size + 1) (d := ⟨k2, n2, nm2, st2, lb2, []⟩) (v := .slice none 0 0) (b := .bool true) ?nod rfl rfl) rfl ?_
  case nod => exact (H2.out.2.2.2.store ⟨k2, n2, nm2, st2, lb2, []⟩ (.slice none 0 0)).store ⟨k2, n2, nm2, st2, lb2, []⟩ (.slice none 0 0)
  refine ⟨(H2.out.1.six (by omega) _ _ _ _ _ _).six (by omega) _ _ _ _ _ _, ?_, ?_⟩
  · have := H2.out.2.1.lt
    simpa [World.setCell] using this
  · rw [if_pos rfl]
    refine ⟨?_, none, 0, 0, rfl, Nat.le_refl _, rfl⟩
    have h1 := H2.out.2.1.six (N := w.heap.size + 1) (v0 := .int .i64 k2) (v1 := .int .i64 n2) (v2 := .string nm2) (v3 := .int .i64 st2) (v4 := .int .i64 lb2) (v5 := .slice none 0 0) (by omega)
    have h2 := h1.six (N := w.heap.size + 1) (v0 := .int .i64 k2) (v1 := .int .i64 n2) (v2 := .string nm2) (v3 := .int .i64 st2) (v4 := .int .i64 lb2) (v5 := .slice none 0 0) (by omega)
    exact h2
end
section
set_option linter.unusedVariables false
set_option linter.unusedSimpArgs false
open Go.RowKit Go.Maps Go.WideMaps

set_option maxRecDepth 100000 in
set_option maxHeartbeats 3200000 in
theorem copied_list (B g : Nat) (d : Dat) (a : Option Addr) (cap gb n dp : Nat) (w : World) (hl : LC B w (g + 1) a d.kids) (hsm : smD d) (hn9 : n ≤ 1999) (hd40 : dp ≤ 40) (hB : B ≤ gb) (hc : Ctr gb n w) (hk : d.kind = 4)
    (ih : ∀ (d' : Dat), d' ∈ d.kids → ∀ (a : Option Addr) (cap n : Nat) (w : World), LC B w g a d'.kids → smD d' → n ≤ 2000 → dp + 1 ≤ 41 → Ctr gb n w → Calls Tryz.prog 89 #[.pointer (some ⟨gb, 0, none⟩), dv d' a cap, .int .i64 ((dp + 1 : Nat) : Int)] w (ToldG gb (holdsB n (dp + 1) d') (bareD d') (n + sizeD d') w)) :
    Calls Tryz.prog 89 #[.pointer (some ⟨gb, 0, none⟩), dv d a cap, .int .i64 (dp : Int)] w (ToldG gb (holdsB n dp d) (bareD d) (n + sizeD d) w) := by
  have hsp := sizeD_pos d
  have hdp := deepD_pos d
  have HC : Hid (Ctr gb n w) := hc
  have l1 := hc.lt
  clear hc
  have hlen := hl.len
  have HL : Hid (LC B w (g + 1) a d.kids) := hl
  have IH : Hid (∀ (d' : Dat), d' ∈ d.kids → ∀ (a : Option Addr) (cap n : Nat) (w : World), LC B w g a d'.kids → smD d' → n ≤ 2000 → dp + 1 ≤ 41 → Ctr gb n w → Calls Tryz.prog 89 #[.pointer (some ⟨gb, 0, none⟩), dv d' a cap, .int .i64 ((dp + 1 : Nat) : Int)] w (ToldG gb (holdsB n (dp + 1) d') (bareD d') (n + sizeD d') w)) := ih
  obtain ⟨k, n', nm, st, lb, ks⟩ := d
  simp only at hk hlen HL IH
  subst hk
  have SM : Hid (smL ks) := (by rw [smD] at hsm; exact hsm.2 rfl)
  have hs : sizeD ⟨4, n', nm, st, lb, ks⟩ = 1 + sizeL ks := by rw [sizeD, if_pos rfl]
  have hb : holdsB n dp ⟨4, n', nm, st, lb, ks⟩ = holdsL (n + 1) (dp + 1) ks := by
    unfold holdsB holdsL
    rw [hs, deepD, if_pos rfl]
    simp only [Nat.add_assoc]
  have hba : bareD ⟨4, n', nm, st, lb, ks⟩ = ⟨4, 0, emS, 0, 0, bareL ks⟩ := by rw [bareD, if_pos rfl]
  have AL : Hid (∀ w, Calls Tryz.prog 91 #[.agg #[.int .i64 4, .int .i64 n', .string nm, .int .i64 st, .int .i64 lb, .slice a ks.length cap]] w fun e w' => e = .returned (.agg #[.int .i64 4, .int .i64 0, .string ⟨#[]⟩, .int .i64 0, .int .i64 0, .slice none 0 0]) ∧ Below w.heap.size w w') := fun w => alone_any ⟨4, n', nm, st, lb, ks⟩ a cap w (fun h => by simp at h)
  rw [hs, hb, hba]
  unfold dv
  simp only
  clear hl ih hs hb hsp hdp hba hsm
  go_enter Tryz.func89, Tryz.ntmps89
  go_wp2_with fail
  refine (takes_ok gb n dp _ hn9 hd40 ((HC.out.alloc _).alloc _)).mono ?_
  rintro e w1 ⟨rfl, hw1⟩
  obtain ⟨hk1, hc1, hn1, hn2⟩ := cop_head (d := ⟨4, n', nm, st, lb, ks⟩) (sl := .slice a ks.length cap) HC.out hw1
  clear hw1
  have H1 : Hid (Kp gb w w1 ∧ Ctr gb (n + 1) w1 ∧ Nod w.heap.size ⟨4, n', nm, st, lb, ks⟩ (.slice a ks.length cap) w1 ∧ Nod (w.heap.size + 1) zeroD (.slice none 0 0) w1) := ⟨hk1, hc1, hn1, hn2⟩
  obtain ⟨p, p0, p1, p2, p3, p4, p5, pz⟩ := hn1
  simp only at p0 p1 p2 p3 p4 p5
  clear hn2 hc1 hk1
  go_wp2_with fail
  refine (AL.out _).mono ?_
  rintro e w2 ⟨rfl, hb2⟩
  have H2 : Hid (Kp gb w w2 ∧ Ctr gb (n + 1) w2 ∧ Nod w.heap.size ⟨4, n', nm, st, lb, ks⟩ (.slice a ks.length cap) w2 ∧ Nod (w.heap.size + 1) zeroD (.slice none 0 0) w2) := ⟨H1.out.1.below hb2, H1.out.2.1.below hb2, H1.out.2.2.1.after hb2, H1.out.2.2.2.after hb2⟩
  clear hb2 H1 AL p p0 p1 p2 p3 p4 p5 pz
  obtain ⟨p, p0, p1, p2, p3, p4, p5, pz⟩ := H2.out.2.2.1
  obtain ⟨q, q0, q1, q2, q3, q4, q5, qz⟩ := H2.out.2.2.2
  simp only [zeroD, emS] at p0 p1 p2 p3 p4 p5 q0 q1 q2 q3 q4 q5
  go_wp2_with fail
  go_loopw [28] (fun i wr => ∃ (j : Nat) (v : Value) (es : List (Dat × Option Addr × Nat)), j ≤ ks.length ∧ i = .int .i64 j ∧ CopL B gb w.heap.size w n dp n' nm st lb ks a cap j v es wr) (fun i _ => ks.length - (intOf i).toNat)
  case atStart =>
    refine ⟨0, .slice none 0 0, [], Nat.zero_le _, rfl, ?_⟩
    refine ⟨H2.out.1.six (by omega) _ _ _ _ _ _, ?_, ?_, ?_, RowC.nil _ _, ?_, ?_⟩
    · show Ctr gb (n + 1 + sizeL (ks.take 0)) _
      have := H2.out.2.1.six (N := w.heap.size + 1) (v0 := .int .i64 4) (v1 := .int .i64 0) (v2 := .string ⟨#[]⟩) (v3 := .int .i64 0) (v4 := .int .i64 0) (v5 := .slice none 0 0) (by omega)
      simpa [sizeL, setSix] using this
    · exact H2.out.2.2.1.six (by omega)
    · exact H2.out.2.2.2.store ⟨4, 0, emS, 0, 0, []⟩ _
    · simp [bareL]
    · simp [holdsL, sizeL, deepL]; omega
  case round =>
    clear H2 p p0 p1 p2 p3 p4 p5 pz q q0 q1 q2 q3 q4 q5 qz
    obtain ⟨j, v, es, hj, rfl, hcop⟩ := hrel
    have HP : Hid (CopL B gb w.heap.size w n dp n' nm st lb ks a cap j v es wr) := hcop
    have hh' : n + 1 + sizeL (ks.take j) ≤ 2000 ∧ dp + 1 + deepL (ks.take j) ≤ 41 := by have hh := hcop.holds; unfold holdsL at hh; simpa using hh
    have HH : Hid (n + 1 + sizeL (ks.take j) ≤ 2000 ∧ dp + 1 + deepL (ks.take j) ≤ 41) := hh'
    have HES : Hid (es.length ≤ 2000) := by
      have h1 : es.length = (ks.take j).length := by
        have := congrArg List.length hcop.same
        rw [bareL_map] at this
        simpa using this
      have h2 := sizeL_many (ks.take j)
      show es.length ≤ 2000
      omega
    clear hh'
    have lr := hcop.ctr.lt
    have lo := hcop.out.lt
    by_cases hlt : j < ks.length
    · obtain ⟨kid, hkid⟩ : ∃ kid, ks[j]? = some kid := ⟨ks[j], List.getElem?_eq_getElem hlt⟩
      have hne : ks ≠ [] := by intro e; rw [e] at hlt; simp at hlt
      have hLr : LC B wr (g + 1) a ks := HL.out.below (hcop.keep.keep.toBelow hB (by omega))
      obtain ⟨g', b, o, hg, ha, hbB, hall⟩ := hLr.at hne
      subst ha
      obtain ⟨a', cap', k0, k1, k2, k3, k4, k5, hkn, hkc, hkk⟩ := hall j kid hkid
      have hg' : g' = g := by omega
      subst hg'
      have HA : Hid (LC B wr g' a' kid.kids) := hkk
      have E1 : Hid (sizeL (ks.take (j + 1)) = sizeL (ks.take j) + sizeD kid ∧ deepL (ks.take (j + 1)) = max (deepL (ks.take j)) (deepD kid)) := ⟨sizeL_take hkid, deepL_take hkid⟩
      have E2 : Hid (sizeL (ks.take (j + 1)) ≤ sizeL ks ∧ deepL (ks.take (j + 1)) ≤ deepL ks) := ⟨sizeL_part _ _, deepL_part _ _⟩
      have E3 : Hid (bareL (ks.take (j + 1)) = bareL (ks.take j) ++ [bareD kid]) := bareL_take_succ hkid
      have HM : Hid (kid ∈ ks) := List.mem_of_getElem? hkid
      have HN : Hid ((bareD kid).name.size ≤ maxLen) := bareD_name kid hkn
      clear hkid hall hkk hLr hne hg hkn hkc hcop
      go_wp2_with fail
      have hdi : ((dp : Int) + 1) = ((dp + 1 : Nat) : Int) := by omega
      rw [hdi]
      refine (IH.out kid HM.out a' cap' _ _ (HA.out.below ((Below.refl _ _).alloc (by omega) _)) (smL_mem _ SM.out _ HM.out) HH.out.1 (by omega) (HP.out.ctr.alloc _)).mono ?_
      rintro e w2 ⟨hk2, hl2, hif⟩
      have HK2 : Hid (Kp gb w w2) := (HP.out.keep.alloc _).trans hk2
      have hs2 : wr.heap.size + 1 ≤ w2.heap.size := by have := hk2.keep.size; simpa using this
      have HO2 : Hid (Nod w.heap.size ⟨4, n', nm, st, lb, ks⟩ (.slice (some ⟨b, o, none⟩) ks.length cap) w2 ∧ Nod (w.heap.size + 1) ⟨4, 0, emS, 0, 0, []⟩ v w2 ∧ RowC (w.heap.size + 2) v es w2) := ⟨(HP.out.box.alloc _).keep hk2.keep (by omega), (HP.out.out.alloc _).keep hk2.keep (by omega), (HP.out.row.below ((Below.refl _ _).alloc (Nat.le_refl _) _)).keep hk2.keep (by omega)⟩
      cases hy : holdsB (n + 1 + sizeL (ks.take j)) (dp + 1) kid with
      | true =>
        have hy' : n + 1 + sizeL (ks.take j) + sizeD kid ≤ 2000 ∧ dp + 1 + deepD kid ≤ 41 := by unfold holdsB at hy; simpa using hy
        rw [hy, if_pos rfl] at hif
        obtain ⟨hc2, a2, cap2, f2, rfl, hcap2, hdc2⟩ := hif
        have HR : Hid (Ctr gb (n + 1 + sizeL (ks.take (j + 1))) w2 ∧ holdsL (n + 1) (dp + 1) (ks.take (j + 1)) = true) := by
          refine ⟨?_, ?_⟩
          · rw [E1.out.1, ← Nat.add_assoc]
            exact hc2
          · unfold holdsL
            rw [E1.out.1, E1.out.2]
            have := HH.out
            simp
            omega
        obtain ⟨bk, hbk⟩ : ∃ bk, bk = bareD kid := ⟨_, rfl⟩
        rw [← hbk] at hcap2 hdc2 E3 HN ⊢
        have HD2 : Hid (bk.kids.length ≤ cap2 ∧ Dc (New wr w2) w2 f2 a2 bk.kids) := ⟨hcap2, Dc.stay (fun _ _ => rfl) (fun k hk => ⟨by have := hk.1; simp at this; omega, hk.2⟩) _ _ _ hdc2⟩
        clear hy hy' hbk hcap2 hdc2 hc2 hk2
        obtain ⟨q, q0, q1, q2, q3, q4, q5, qz⟩ := HO2.out.2.1
        simp only at q0 q1 q2 q3 q4 q5
        obtain ⟨i0, hinf, hz0, hz1, hz2⟩ := info_parts infoDat
        unfold dv
        simp only
        go_wp2_with (at_builtin; refine wpList_append_where rfl _ _ 26 rfl (w.heap.size + 2) 28 i0 _ 6 72 Tryz.underlying26 hinf hz0 hz1 hz2 rfl (by decide) v es.length (flat es) rfl (by exact (HO2.out.2.2.own.alloc _).alloc _) ⟨w2.heap.size + 1, 0, none⟩ 1 1 [.int .i64 bk.kind, .int .i64 bk.n, .string bk.name, .int .i64 bk.stamp, .int .i64 bk.lib, .slice a2 bk.kids.length cap2] rfl rfl ?c1 ?c2 (by decide) ?c3 ?c4 ?c5 ?_)
        case c1 =>
          intro q u hq
          have hcell := World.cell?_alloc_mark (w2.alloc (.cells #[.int .i64 bk.kind, .int .i64 bk.n, .string bk.name, .int .i64 bk.stamp, .int .i64 bk.lib, .slice a2 bk.kids.length cap2] 28)) #[.int .i64 bk.kind, .int .i64 bk.n, .string bk.name, .int .i64 bk.stamp, .int .i64 bk.lib, .slice a2 bk.kids.length cap2] 28 (0, 0) q
          have hsz : (w2.alloc (.cells #[.int .i64 bk.kind, .int .i64 bk.n, .string bk.name, .int .i64 bk.stamp, .int .i64 bk.lib, .slice a2 bk.kids.length cap2] 28)).heap.size = w2.heap.size + 1 := by simp
          have hadd := addr_add (w2.heap.size + 1) q
          rw [hsz] at hcell
          rw [hadd, hcell]
          simpa using hq
        case c2 =>
          intro u hu
          simp at hu
          rcases hu with rfl | rfl | rfl | rfl | rfl | rfl <;> rfl
        case c3 => have := HES.out; unfold maxLen; omega
        case c4 => have := HES.out; omega
        case c5 => simp; omega
        intro v' w4 hown4 hg4 hw4
        have HROW : Hid (RowC (w.heap.size + 2) v' (es ++ [(bk, a2, cap2)]) w4) := by
          refine RowC.push (f := f2) (wr := wr) (w := w2.alloc (.cells #[.int .i64 bk.kind, .int .i64 bk.n, .string bk.name, .int .i64 bk.stamp, .int .i64 bk.lib, .slice a2 bk.kids.length cap2] 28)) _ (HO2.out.2.2.below ((Below.refl _ _).alloc (Nat.le_refl _) _)) (by omega) (fun k hk => (HP.out.row.own.lt k hk).2) ?_ HN.out HD2.out.1 hown4 hg4 (by simpa using hw4)
          exact Dc.stay (fun k hk => Below.heap_alloc _ _ _ hk.2) (fun k hk => ⟨hk.1, by simp; have := hk.2; omega⟩) _ _ _ HD2.out.2
        have hrow : ∀ k, v.ownBlock = some k → w.heap.size + 2 ≤ k := fun k hk => (HO2.out.2.2.own.lt k hk).1
        have H4 : Hid (Kp gb w w4 ∧ Ctr gb (n + 1 + sizeL (ks.take (j + 1))) w4 ∧ Nod w.heap.size ⟨4, n', nm, st, lb, ks⟩ (.slice (some ⟨b, o, none⟩) ks.length cap) w4 ∧ Nod (w.heap.size + 1) ⟨4, 0, emS, 0, 0, []⟩ v w4) := by
          refine ⟨((HK2.out.alloc _).alloc _).grown hg4 (fun k hk => by have := hrow k hk; omega), ?_, ((HO2.out.1.alloc _).alloc _).grown hg4 ?_, ((HO2.out.2.1.alloc _).alloc _).grown hg4 ?_⟩
          · have hx := ((HR.out.1.alloc (.cells #[.int .i64 bk.kind, .int .i64 bk.n, .string bk.name, .int .i64 bk.stamp, .int .i64 bk.lib, .slice a2 bk.kids.length cap2] 28)).alloc (.cells #[.int .i64 bk.kind, .int .i64 bk.n, .string bk.name, .int .i64 bk.stamp, .int .i64 bk.lib, .slice a2 bk.kids.length cap2] 28))
            have hbl := hg4.block gb hx.lt (fun e => by have := hrow gb e.symm; omega)
            exact ⟨Nat.lt_of_lt_of_le hx.lt hg4.size, (World.cell?_of_block hbl).trans hx.cell, (World.frozen?_of_block hbl).trans hx.thaw⟩
          · intro e
            have := hrow w.heap.size e.symm
            omega
          · intro e
            have := hrow (w.heap.size + 1) e.symm
            omega
        have hs4 : w.heap.size + 1 < w4.heap.size := H4.out.2.2.2.lt
        clear hown4 hg4 hw4 hrow HD2 q q0 q1 q2 q3 q4 q5 qz
        obtain ⟨ao, ln, cp, hv'⟩ : ∃ ao ln cp, v' = .slice ao ln cp := by
          rcases HROW.out.own.2 with ⟨hv, _⟩ | ⟨gg, cap, cur, hv, _⟩
          · exact ⟨_, _, _, hv⟩
          · exact ⟨_, _, _, hv⟩
        subst hv'
        obtain ⟨q, q0, q1, q2, q3, q4, q5, qz⟩ := H4.out.2.2.2
        simp only at q0 q1 q2 q3 q4 q5
        simp only [Act.put, List.setIfInBounds_toArray, List.set_cons_succ, List.set_cons_zero]
        go_wp2_with fail
        go_roundw
        case rel =>
          refine ⟨j + 1, .slice ao ln cp, es ++ [(bk, a2, cap2)], by omega, by go_num, ?_⟩
          have hke : Keep (w.heap.size + 1) w4 (w4.setCell ⟨w.heap.size + 1, 5, none⟩ (.slice ao ln cp)) := (Keep.refl _ _).setCell _ rfl _
          have hbg : (w4.setCell ⟨w.heap.size + 1, 5, none⟩ (.slice ao ln cp)).heap[gb]? = w4.heap[gb]? := hke.block gb H4.out.2.1.lt (by simp; omega)
          refine ⟨H4.out.1.setNew _ (by simp) _, ⟨?_, (World.cell?_of_block hbg).trans H4.out.2.1.cell, (World.frozen?_of_block hbg).trans H4.out.2.1.thaw⟩, H4.out.2.2.1.keep hke (by omega), H4.out.2.2.2.set5 _, HROW.out.keep hke (by omega), ?_, HR.out.2⟩
          · have := H4.out.2.1.lt
            simpa [World.setCell] using this
          · rw [E3.out, List.map_append, HP.out.same]
            rfl
        case measure => simp [intOf]; omega
      | false =>
        rw [hy, if_neg (by simp)] at hif
        subst hif
        have HF : Hid (holdsL (n + 1) (dp + 1) ks = false) := by
          show holdsL (n + 1) (dp + 1) ks = false
          have hy' : ¬ (n + 1 + sizeL (ks.take j) + sizeD kid ≤ 2000 ∧ dp + 1 + deepD kid ≤ 41) := by
            unfold holdsB at hy
            intro h
            simp [h] at hy
          have h1 := E1.out
          have h2 := E2.out
          unfold holdsL
          rw [Bool.and_eq_false_iff]
          simp
          omega
        clear hy hk2
        obtain ⟨q, q0, q1, q2, q3, q4, q5, qz⟩ := HO2.out.2.1
        simp only [emS] at q0 q1 q2 q3 q4 q5
        simp only [dv, zeroD, emS, List.length_nil]
        go_wp2_with fail
        refine bodyPost_ret (ret89 ((HO2.out.2.1.store zeroD (.slice none 0 0)).alloc _) rfl rfl) rfl ?_
        refine ⟨(HK2.out.six (by omega) _ _ _ _ _ _).alloc _, ?_, ?_⟩
        · simp [World.setCell]
          omega
        · rw [HF.out]
          rfl
    · obtain rfl : j = ks.length := by omega
      obtain ⟨a', cap', f', hv, hcap, hdc⟩ := HP.out.row.lie (by have := HES.out; omega)
      have HS : Hid (es.map (·.1) = bareL ks) := by
        have := HP.out.same
        rw [List.take_length] at this
        exact this
      rw [HS.out] at hv hcap hdc
      have HD : Hid ((bareL ks).length ≤ cap' ∧ Dc (fun b => w.heap.size + 2 ≤ b ∧ b < wr.heap.size) wr f' a' (bareL ks)) := ⟨hcap, hdc⟩
      subst hv
      have HF : Hid (holdsL (n + 1) (dp + 1) ks = true) := by
        have := hcop.holds
        rw [List.take_length] at this
        exact this
      obtain ⟨q, q0, q1, q2, q3, q4, q5, qz⟩ := hcop.out
      simp only [emS] at q0 q1 q2 q3 q4 q5
      clear hcop hdc hcap
      go_wp2_with fail
      refine bodyPost_ret (ret89 (HP.out.out.store ⟨4, 0, emS, 0, 0, []⟩ (.slice a' (bareL ks).length cap')) rfl rfl) rfl ?_
      refine ⟨HP.out.keep.six (by omega) _ _ _ _ _ _, ?_, ?_⟩
      · simp [World.setCell]
        omega
      · rw [HF.out, if_pos rfl]
        refine ⟨?_, a', cap', f', rfl, HD.out.1, ?_⟩
        · have := HP.out.ctr.six (N := w.heap.size + 1) (v0 := .int .i64 4) (v1 := .int .i64 0) (v2 := .string ⟨#[]⟩) (v3 := .int .i64 0) (v4 := .int .i64 0) (v5 := .slice a' (bareL ks).length cap') (by omega)
          rw [List.take_length] at this
          rw [← Nat.add_assoc]
          exact this
        · have hh := six_heap wr (w.heap.size + 1) (.int .i64 4) (.int .i64 0) (.string ⟨#[]⟩) (.int .i64 0) (.int .i64 0) (.slice a' (bareL ks).length cap')
          refine Dc.stay (fun b hb => hh.1 b (by have := hb.1; omega)) (fun b hb => ⟨by have := hb.1; omega, ?_⟩) f' _ _ HD.out.2
          rw [hh.2]
          exact hb.2
end
section
set_option linter.unusedVariables false
set_option linter.unusedSimpArgs false
open Go.RowKit Go.Maps Go.WideMaps

theorem copied_step (B g : Nat) (d : Dat) (a : Option Addr) (cap gb n dp : Nat) (w : World) (hl : LC B w (g + 1) a d.kids) (hsm : smD d) (hn : n ≤ 2000) (hd : dp ≤ 41) (hB : B ≤ gb) (hc : Ctr gb n w)
    (ih : ∀ (d' : Dat), d' ∈ d.kids → ∀ (a : Option Addr) (cap n : Nat) (w : World), LC B w g a d'.kids → smD d' → n ≤ 2000 → dp + 1 ≤ 41 → Ctr gb n w → Calls Tryz.prog 89 #[.pointer (some ⟨gb, 0, none⟩), dv d' a cap, .int .i64 ((dp + 1 : Nat) : Int)] w (ToldG gb (holdsB n (dp + 1) d') (bareD d') (n + sizeD d') w)) :
    Calls Tryz.prog 89 #[.pointer (some ⟨gb, 0, none⟩), dv d a cap, .int .i64 (dp : Int)] w (ToldG gb (holdsB n dp d) (bareD d) (n + sizeD d) w) := by
  by_cases hx : n = 2000 ∨ dp = 41
  · exact copied_no d a cap gb n dp w hn hd hx hc
  · by_cases hk : d.kind = 4
    · exact copied_list B g d a cap gb n dp w hl hsm (by omega) (by omega) hB hc hk ih
    · exact copied_leaf d a cap gb n dp w hsm (by omega) (by omega) hc hk

theorem copied_any (B gb : Nat) (hB : B ≤ gb) : ∀ (g : Nat) (d : Dat) (a : Option Addr) (cap n dp : Nat) (w : World), LC B w g a d.kids → smD d → n ≤ 2000 → dp ≤ 41 → Ctr gb n w →
    Calls Tryz.prog 89 #[.pointer (some ⟨gb, 0, none⟩), dv d a cap, .int .i64 (dp : Int)] w (ToldG gb (holdsB n dp d) (bareD d) (n + sizeD d) w)
  | 0, d, a, cap, n, dp, w, hl, hs, hn, hd, hc => by
    refine copied_step B 0 d a cap gb n dp w hl.more hs hn hd hB hc ?_
    intro d' hd'
    rw [show d.kids = [] from hl.1] at hd'
    cases hd'
  | g + 1, d, a, cap, n, dp, w, hl, hs, hn, hd, hc => copied_step B g d a cap gb n dp w hl hs hn hd hB hc fun d _ a cap n w hl hs hn hd hc => copied_any B gb hB g d a cap n (dp + 1) w hl hs hn hd hc
end
end Go.Proofs.YtgeedaabdonjcaeGreatDoor
