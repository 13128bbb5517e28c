/- Chapter 3's laws: LibElse: of two ways one, parsed. -/
import Derived.Test.YtonafbennobgdaaGreatDoorK44
namespace Go.Proofs.YtonafbennobgdaaGreatDoor
set_option linter.unusedVariables false
set_option linter.unusedSimpArgs false
open Go.RowKit

theorem madeN (W : World) (es : List (Dat × Option Addr × Nat)) (hl : es.length ≤ 100) (h : ∀ e ∈ es, e.1.name.size ≤ maxLen ∧ e.1.kids.length ≤ e.2.2 ∧ ∃ f, Dn W f e.2.1 e.1.kids) :
    ∃ f, Dn (W.alloc (.cells (flat es).toArray 26)) f (some ⟨W.heap.size, 0, none⟩) (es.map (·.1)) := by
  have hr := RowD.made W es (by simp [maxLen]; omega) h
  obtain ⟨a, cap, f, hv, hc, hd⟩ := hr.lieN (by omega)
  simp at hv
  rw [hv.1]
  exact ⟨f, hd⟩
set_option maxRecDepth 100000 in
set_option maxHeartbeats 6400000 in
theorem both24 (E : Env) (a1 a2 : Option Addr) (n1 n2 c1 c2 : Nat) (p1 p2 p3 p4 : Nat) (r : Dat) (ra : Option Addr) (rc Fr : Nat) (xs ys : List Dat) (ax ay : Option Addr) (cx cy Fx Fy : Nat) (w : World) (h0 : 0 < w.heap.size) (ht : TabW w) (he : EnvW w.heap.size E (.slice none 0 0) (.slice a1 n1 c1) (.slice a2 n2 c2) w)
    (hp1 : w.cell? ⟨p1, 0, none⟩ = some (.slice a1 n1 c1)) (hp2 : w.cell? ⟨p2, 0, none⟩ = some (.slice a2 n2 c2)) (hp3 : w.cell? ⟨p3, 0, none⟩ = some (.func (.func 23) #[] #[.pointer (some ⟨p4, 0, none⟩)])) (hp4 : w.cell? ⟨p4, 0, none⟩ = some (.func (.func 22) #[] #[]))
    (hrn : r.name.size ≤ maxLen) (hrc : r.kids.length ≤ rc) (hr : Dn w Fr ra r.kids) (hx : Dn w Fx ax xs) (hy : Dn w Fy ay ys) (hxl : xs.length * 72 ≤ 140737488355256) (hyl : ys.length * 72 ≤ 140737488355256) :
    Calls Tryz.prog 24 #[dv r ra rc, .slice ax xs.length cx, .slice ay ys.length cy, .pointer (some ⟨p1, 0, none⟩), .pointer (some ⟨p2, 0, none⟩), .pointer (some ⟨p3, 0, none⟩), .pointer (some ⟨p4, 0, none⟩)] w (ToldQ (parseF E (condD r xs ys)) w) := by
  have e1 := World.block_lt_of_cell? w ⟨p1, 0, none⟩ hp1
  have e2 := World.block_lt_of_cell? w ⟨p2, 0, none⟩ hp2
  have e3 := World.block_lt_of_cell? w ⟨p3, 0, none⟩ hp3
  have e4 := World.block_lt_of_cell? w ⟨p4, 0, none⟩ hp4
  simp only at e1 e2 e3 e4
  obtain ⟨W1, hW1⟩ : ∃ W1, W1 = w.alloc (.cells #[.int .i64 r.kind, .int .i64 r.n, .string r.name, .int .i64 r.stamp, .int .i64 r.lib, .slice ra r.kids.length rc] 26) := ⟨_, rfl⟩
  have hb1 : Below w.heap.size w W1 := by rw [hW1]; exact (Below.refl _ _).alloc (Nat.le_refl _) _
  have bx1 : W1.heap[w.heap.size]? = some (.cells #[.int .i64 r.kind, .int .i64 r.n, .string r.name, .int .i64 r.stamp, .int .i64 r.lib, .slice ra r.kids.length rc] 26 (0, 0)) := by rw [hW1]; exact World.alloc_heap_new w _
  have hz1 : W1.heap.size = w.heap.size + 1 := by rw [hW1]; simp
  have HW1 := hidd hW1.symm
  have PX : Hid (∀ u, Below W1.heap.size W1 u → u.cell? ⟨p1, 0, none⟩ = some (.slice a1 n1 c1) ∧ u.cell? ⟨p2, 0, none⟩ = some (.slice a2 n2 c2) ∧ u.cell? ⟨p3, 0, none⟩ = some (.func (.func 23) #[] #[.pointer (some ⟨p4, 0, none⟩)]) ∧ u.cell? ⟨p4, 0, none⟩ = some (.func (.func 22) #[] #[]) ∧ u.heap[w.heap.size]? = some (.cells #[.int .i64 r.kind, .int .i64 r.n, .string r.name, .int .i64 r.stamp, .int .i64 r.lib, .slice ra r.kids.length rc] 26 (0, 0))) := fun u hb => by
    have hu : Below w.heap.size w u := hb1.trans (hb.mono hb1.size)
    exact ⟨(hu.cell (p := ⟨p1, 0, none⟩) e1).trans hp1, (hu.cell (p := ⟨p2, 0, none⟩) e2).trans hp2, (hu.cell (p := ⟨p3, 0, none⟩) e3).trans hp3, (hu.cell (p := ⟨p4, 0, none⟩) e4).trans hp4, (hb.block _ (by omega)).trans bx1⟩
  have RD : Hid (∀ u, Below W1.heap.size W1 u → ∃ f, Dn u f ra r.kids) := fun u hb => ⟨Fr, hr.lift (hb1.trans (hb.mono hb1.size))⟩
  have XD : Hid (∀ u, Below W1.heap.size W1 u → Dn u Fx ax xs) := fun u hb => hx.lift (hb1.trans (hb.mono hb1.size))
  have YD : Hid (∀ u, Below W1.heap.size W1 u → Dn u Fy ay ys) := fun u hb => hy.lift (hb1.trans (hb.mono hb1.size))
  have X1 := hidd (hx.lift hb1)
  have RN : Hid (r.name.size ≤ maxLen ∧ r.kids.length ≤ rc) := ⟨hrn, hrc⟩
  have NL : Hid (xs.length * 72 ≤ 140737488355256 ∧ ys.length * 72 ≤ 140737488355256) := ⟨hxl, hyl⟩
  have ROW : Hid (∀ u, Below W1.heap.size W1 u → RowD u.heap.size (.slice (some ⟨u.heap.size, 0, none⟩) 1 1) [(r, ra, rc)] (u.alloc (.cells #[.int .i64 r.kind, .int .i64 r.n, .string r.name, .int .i64 r.stamp, .int .i64 r.lib, .slice ra r.kids.length rc] 26))) := fun u hb => RowD.made u [(r, ra, rc)] (by simp [maxLen]) (by
    intro e he
    simp at he
    subst he
    obtain ⟨f, hf⟩ := RD.out u hb
    exact ⟨hrn, hrc, f, hf⟩)
  obtain ⟨m0, hm0⟩ : ∃ m, m = (r :: xs).length := ⟨_, rfl⟩
  have HM0 := hidd hm0
  have LQ : Hid (∀ W q c, Calls Tryz.prog 20 #[.slice q m0 c] W fun e w' => e = .returned (dv (liD (r :: xs)) q c) ∧ Below W.heap.size W w') := fun W q c => by subst hm0; exact List_any (r :: xs) q c W
  obtain ⟨ny, hny⟩ : ∃ n, n = ys.length := ⟨_, rfl⟩
  obtain ⟨nx, hnx⟩ : ∃ n, n = xs.length := ⟨_, rfl⟩
  have WE : Hid (∀ u, Below W1.heap.size W1 u → Calls Tryz.prog 22 #[.string bElse, .slice ay ny cy] u (ToldN (liD (syD bElse :: ys)) u)) := fun u hb => by subst hny; exact wcl22N bElse ys ay cy Fy u (by decide) (YD.out u hb) NL.out.2
  have HNX := hidd hnx
  have KA : Hid ((liD (r :: xs)).kids = r :: xs) := rfl
  have NA : Hid ((liD (r :: xs)).name.size ≤ maxLen) := Nat.zero_le _
  have NB : Hid ((liD (syD bElse :: ys)).name.size ≤ maxLen) := Nat.zero_le _
  have WC : Hid (∀ u f q, Dn u f q [liD (r :: xs), liD (syD bElse :: ys)] → Calls Tryz.prog 22 #[.string bCond, .slice q 2 2] u (ToldN (liD [syD bCond, liD (r :: xs), liD (syD bElse :: ys)]) u)) := fun u f q hq => wcl22N bCond [liD (r :: xs), liD (syD bElse :: ys)] q 2 f u (by decide) hq (by simp)
  have NC : Hid ((liD [syD bCond, liD (r :: xs), liD (syD bElse :: ys)]).name.size ≤ maxLen) := Nat.zero_le _
  have WP : Hid (∀ u f q, Below W1.heap.size W1 u → Dn u f q [liD [syD bCond, liD (r :: xs), liD (syD bElse :: ys)]] → Calls Tryz.prog 23 #[.slice q 1 1, .pointer (some ⟨p4, 0, none⟩)] u (ToldN (progD [liD [syD bCond, liD (r :: xs), liD (syD bElse :: ys)]]) u)) := fun u f q hb hq => prog23 p4 _ q 1 f u (PX.out u hb).2.2.2.1 hq (by simp)
  have PQ : Hid (∀ u f q c, Below W1.heap.size W1 u → (progD [liD [syD bCond, liD (r :: xs), liD (syD bElse :: ys)]]).kids.length ≤ c → Dn u f q (progD [liD [syD bCond, liD (r :: xs), liD (syD bElse :: ys)]]).kids → Calls Tryz.prog 9 #[.slice none 0 0, .slice a1 n1 c1, .slice a2 n2 c2, dv (progD [liD [syD bCond, liD (r :: xs), liD (syD bElse :: ys)]]) q c] u (ToldQ (parseF E (condD r xs ys)) u)) := fun u f q c hb hc hq => by
    have hu : Below w.heap.size w u := hb1.trans (hb.mono hb1.size)
    exact (Parse_any u.heap.size f E _ _ _ (progD [liD [syD bCond, liD (r :: xs), liD (syD bElse :: ys)]]) q c u (Nat.le_refl _) (Nat.lt_of_lt_of_le h0 hu.size) ((he.below hu).grow hu.size) (ht.below hu h0) hq hc (Nat.zero_le _)).mono fun _ _ h => h.q
  generalize parseF E (condD r xs ys) = rr at PQ ⊢
  generalize progD [liD [syD bCond, liD (r :: xs), liD (syD bElse :: ys)]] = dP at *
  generalize liD [syD bCond, liD (r :: xs), liD (syD bElse :: ys)] = dC at *
  generalize liD (syD bElse :: ys) = dB at *
  generalize liD (r :: xs) = dA at *
  rw [← hny, ← hnx]
  have B1 : Hid ((W1.alloc (.cells #[.string ⟨#[]⟩, .slice none 0 0, .slice none 0 0, .slice none 0 0] 30)).heap.size = W1.heap.size + 1) := by show _ = _; simp
  have BB : Hid (Below W1.heap.size W1 (W1.alloc (.cells #[.string ⟨#[]⟩, .slice none 0 0, .slice none 0 0, .slice none 0 0] 30))) := (Below.refl _ _).alloc (Nat.le_refl _) _
  have BX : Hid ((W1.alloc (.cells #[.string ⟨#[]⟩, .slice none 0 0, .slice none 0 0, .slice none 0 0] 30)).heap[W1.heap.size]? = some (.cells #[.string ⟨#[]⟩, .slice none 0 0, .slice none 0 0, .slice none 0 0] 30 (0, 0))) := World.alloc_heap_new W1 _
  have HBW := hidd (And.intro hb1 hz1)
  clear h0 ht he hp1 hp2 hp3 hp4 hrn hrc hr hx hy hxl hyl hW1 hb1 bx1 hz1 e1 e2 e3 e4 hm0 hny hnx
  unfold dv
  go_enter Tryz.func24, Tryz.ntmps24
  go_upto_region 1 with fail
  rw [HW1.out]
  clear HW1
  generalize W1.alloc (.cells #[.string ⟨#[]⟩, .slice none 0 0, .slice none 0 0, .slice none 0 0] 30) = W0 at BB BX B1 ⊢
  have BX_0 : Hid (W0.drew.heap[W1.heap.size]? = some (.cells #[.string ⟨#[]⟩, .slice none 0 0, .slice none 0 0, .slice none 0 0] 30 (0, 0))) := BX.out
  clear BX
  refine wp_region_held_drew (S := fun u => Below W1.heap.size W1 u ∧ W1.heap.size + 1 ≤ u.heap.size) (by kernel_rfl) ⟨Below.drew BB.out, by have := B1.out; show _ ≤ W0.heap.size; omega⟩ (fun hS => ?_)
  refine wpAnyH_take (i := 0) (oi := { dst := some 12, op := Op.load 23 (Operand.tmp 3), type := 23, pos := _, after := _, guard := none }) (v := .slice a1 n1 c1) rfl (by kernel_rfl) (by kernel_rfl) (by kernel_rfl) (fun _ _ _ h => h) (Or.inl ⟨by rfl, fun u hu => by (have z0 := (PX.out u hu.1).1; go_simp)⟩) hS ?_
  simp only [Act.put, List.setIfInBounds_toArray, List.set_cons_zero, List.set_cons_succ]
  refine wpAnyH_take (i := 1) (oi := { dst := some 13, op := Op.load 23 (Operand.tmp 4), type := 23, pos := _, after := _, guard := none }) (v := .slice a2 n2 c2) rfl (by kernel_rfl) (by kernel_rfl) (by kernel_rfl) (fun _ _ _ h => h) (Or.inl ⟨by rfl, fun u hu => by (have z0 := (PX.out u hu.1).2.1; go_simp)⟩) hS ?_
  simp only [Act.put, List.setIfInBounds_toArray, List.set_cons_zero, List.set_cons_succ]
  refine wpAnyH_take (i := 2) (oi := { dst := some 14, op := Op.load 45 (Operand.tmp 5), type := 45, pos := _, after := _, guard := none }) (v := .func (.func 23) #[] #[.pointer (some ⟨p4, 0, none⟩)]) rfl (by kernel_rfl) (by kernel_rfl) (by kernel_rfl) (fun _ _ _ h => h) (Or.inl ⟨by rfl, fun u hu => by (have z0 := (PX.out u hu.1).2.2.1; go_simp)⟩) hS ?_
  simp only [Act.put, List.setIfInBounds_toArray, List.set_cons_zero, List.set_cons_succ]
  refine wpAnyH_take (i := 3) (oi := { dst := some 15, op := Op.load 47 (Operand.tmp 6), type := 47, pos := _, after := _, guard := none }) (v := .func (.func 22) #[] #[]) rfl (by kernel_rfl) (by kernel_rfl) (by kernel_rfl) (fun _ _ _ h => h) (Or.inl ⟨by rfl, fun u hu => by (have z0 := (PX.out u hu.1).2.2.2.1; go_simp)⟩) hS ?_
  simp only [Act.put, List.setIfInBounds_toArray, List.set_cons_zero, List.set_cons_succ]
  refine wpAnyH_take (i := 4) (oi := { dst := some 16, op := Op.load 26 (Operand.tmp 7), type := 26, pos := _, after := _, guard := none }) (v := .agg #[.int .i64 r.kind, .int .i64 r.n, .string r.name, .int .i64 r.stamp, .int .i64 r.lib, .slice ra r.kids.length rc]) rfl (by kernel_rfl) (by kernel_rfl) (by kernel_rfl) (fun _ _ _ h => h) (Or.inl ⟨by rfl, fun u hu => by (have zz := (PX.out u hu.1).2.2.2.2; have z0 : u.cell? ⟨w.heap.size, 0, none⟩ = some _ := (cellO zz).trans rfl; have z1 : u.cell? ⟨w.heap.size, 1, none⟩ = some _ := (cellO zz).trans rfl; have z2 : u.cell? ⟨w.heap.size, 2, none⟩ = some _ := (cellO zz).trans rfl; have z3 : u.cell? ⟨w.heap.size, 3, none⟩ = some _ := (cellO zz).trans rfl; have z4 : u.cell? ⟨w.heap.size, 4, none⟩ = some _ := (cellO zz).trans rfl; have z5 : u.cell? ⟨w.heap.size, 5, none⟩ = some _ := (cellO zz).trans rfl; clear zz; go_simp)⟩) hS ?_
  simp only [Act.put, List.setIfInBounds_toArray, List.set_cons_zero, List.set_cons_succ]
  refine wpAnyH_take (i := 6) (oi := { dst := some 18, op := Op.move (Operand.tmp 1), type := 24, pos := _, after := _, guard := none }) (v := .slice ax nx cx) rfl (by kernel_rfl) (by kernel_rfl) (by kernel_rfl) (fun _ _ _ h => h) (Or.inl ⟨by rfl, fun u hu => by go_simp⟩) hS ?_
  simp only [Act.put, List.setIfInBounds_toArray, List.set_cons_zero, List.set_cons_succ]
  refine wpAnyH_take (i := 9) (oi := { dst := some 21, op := Op.load 47 (Operand.tmp 6), type := 47, pos := _, after := _, guard := none }) (v := .func (.func 22) #[] #[]) rfl (by kernel_rfl) (by kernel_rfl) (by kernel_rfl) (fun _ _ _ h => h) (Or.inl ⟨by rfl, fun u hu => by (have z0 := (PX.out u hu.1).2.2.2.1; go_simp)⟩) hS ?_
  simp only [Act.put, List.setIfInBounds_toArray, List.set_cons_zero, List.set_cons_succ]
  refine wpAnyH_take (i := 10) (oi := { dst := some 22, op := Op.move (Operand.tmp 2), type := 24, pos := _, after := _, guard := none }) (v := .slice ay ny cy) rfl (by kernel_rfl) (by kernel_rfl) (by kernel_rfl) (fun _ _ _ h => h) (Or.inl ⟨by rfl, fun u hu => by go_simp⟩) hS ?_
  simp only [Act.put, List.setIfInBounds_toArray, List.set_cons_zero, List.set_cons_succ]
  refine wpAnyH_ready (rs := [5]) (by kernel_rfl) (by simp) (AllReadyH.cons (o := { dst := some 17, op := Op.buildSlice 24 1 #[(0, Operand.tmp 16)], type := 24, pos := _, after := _, guard := none }) rfl (fun K hK => ?_) AllReadyH.nil)
  go_simp
  have hb1 : Below W0.drew.heap.size W0.drew (W0.drew.alloc (.cells #[.int .i64 r.kind, .int .i64 r.n, .string r.name, .int .i64 r.stamp, .int .i64 r.lib, .slice ra r.kids.length rc] 26)) := (Below.refl _ _).alloc (Nat.le_refl _) _
  have RS : Hid (RowD W0.heap.size (.slice (some ⟨W0.heap.size, 0, none⟩) 1 1) [(r, ra, rc)] (W0.drew.alloc (.cells #[.int .i64 r.kind, .int .i64 r.n, .string r.name, .int .i64 r.stamp, .int .i64 r.lib, .slice ra r.kids.length rc] 26))) := ROW.out W0.drew hS.1
  have RB : Hid (W1.heap.size + 1 ≤ W0.heap.size ∧ W0.heap.size ≤ (W0.drew.alloc (.cells #[.int .i64 r.kind, .int .i64 r.n, .string r.name, .int .i64 r.stamp, .int .i64 r.lib, .slice ra r.kids.length rc] 26)).heap.size) := ⟨hS.2, hb1.size⟩
  have hS1 := And.intro (hS.1.trans (hb1.mono hS.1.size)) (Nat.le_trans hS.2 hb1.size)
  change K _ (W0.drew.alloc (.cells #[.int .i64 r.kind, .int .i64 r.n, .string r.name, .int .i64 r.stamp, .int .i64 r.lib, .slice ra r.kids.length rc] 26))
  generalize W0.drew.alloc (.cells #[.int .i64 r.kind, .int .i64 r.n, .string r.name, .int .i64 r.stamp, .int .i64 r.lib, .slice ra r.kids.length rc] 26) = W2 at hb1 RS RB hS1 ⊢
  have BX_1 : Hid (W2.heap[W1.heap.size]? = some (.cells #[.string ⟨#[]⟩, .slice none 0 0, .slice none 0 0, .slice none 0 0] 30 (0, 0))) := (hb1.block _ (Array.getElem?_eq_some_iff.1 BX_0.out).1).trans BX_0.out
  clear hb1
  refine hK.out _ _ hS1 (fun hS => ?_)
  clear hK K
  refine wpAnyH_ready (rs := [7]) (by kernel_rfl) (by simp) (AllReadyH.cons (o := { dst := some 19, op := Op.call { callee := Callee.builtin Builtin.append, args := #[Operand.tmp 17, Operand.tmp 18], argTypes := #[24, 24] }, type := 24, pos := _, after := _, guard := none }) rfl (fun K hK => ?_) AllReadyH.nil)
  refine step_rowD rfl (.tmp 17) (.tmp 18) rfl (by exact RS.out) (W0 := W1) (F := Fx) (a := ax) (l := xs) (cap := cx) rfl (by rw [← HNX.out]; rfl) X1.out hS.1 (Nat.le_of_succ_le RB.out.1) RB.out.2 (by have := NL.out.1; simp; omega) ?_
  intro v2 W3 fs hfs hr hb hkf
  obtain ⟨va, vc, vf, hva, hvc, hdd⟩ := hr.lieN (by have h1 := congrArg List.length hfs; have h2 := NL.out.1; rw [List.length_map] at h1; simp; omega)
  have hmp : List.map (fun x : Dat × Option Addr × Nat => x.1) ([(r, ra, rc)] ++ fs) = r :: xs := by simp [hfs]
  rw [hmp] at hva hvc hdd
  subst hva
  rw [← HM0.out] at hvc ⊢
  have BX_2 : Hid (W3.heap[W1.heap.size]? = some (.cells #[.string ⟨#[]⟩, .slice none 0 0, .slice none 0 0, .slice none 0 0] 30 (0, 0))) := (hb.block _ (by have := RB.out.1; omega)).trans BX_1.out
  have QA_2 : Hid (∃ f, Dn W3 f va dA.kids) := ⟨vf, by rw [KA.out]; exact hdd⟩
  have QAL : Hid (dA.kids.length ≤ vc) := by rw [KA.out, ← HM0.out]; exact hvc
  have hS2 : Below W1.heap.size W1 W3 ∧ W1.heap.size + 1 ≤ W3.heap.size := ⟨hS.1.trans (hb.mono (Nat.le_of_succ_le RB.out.1)), Nat.le_trans hS.2 hb.size⟩
  clear hr hb hkf hmp hvc hdd hfs RS RB
  show K _ W3
  refine hK.out _ _ hS2 (fun hS => ?_)
  clear hK K
  refine wpAnyH_ready (rs := [8]) (by kernel_rfl) (by simp) (AllReadyH.cons (o := { dst := some 20, op := Op.call { callee := Callee.value (Operand.func 20), args := #[Operand.tmp 19], argTypes := #[24] }, type := 26, pos := _, after := _, guard := none }) rfl (fun K hK => ?_) AllReadyH.nil)
  go_simp
  refine Calls.mono (LQ.out W3 va vc) ?_
  rintro e W4 ⟨rfl, hb3⟩
  have BX_3 : Hid (W4.heap[W1.heap.size]? = some (.cells #[.string ⟨#[]⟩, .slice none 0 0, .slice none 0 0, .slice none 0 0] 30 (0, 0))) := (hb3.block _ (Array.getElem?_eq_some_iff.1 BX_2.out).1).trans BX_2.out
  have QA_3 : Hid (∃ f, Dn W4 f va dA.kids) := (by obtain ⟨f, hf⟩ := QA_2.out; exact ⟨f, hf.lift hb3⟩)
  have hS3 := And.intro (hS.1.trans (hb3.mono hS.1.size)) (Nat.le_trans hS.2 hb3.size)
  clear hb3
  try unfold dv
  show K _ W4
  refine hK.out _ _ hS3 (fun hS => ?_)
  clear hK K
  refine wpAnyH_ready (rs := [11]) (by kernel_rfl) (by simp) (AllReadyH.cons (o := { dst := some 23, op := Op.call { callee := Callee.value (Operand.tmp 21), args := #[Operand.const (Value.string { data := #[101, 108, 115, 101] }), Operand.tmp 22], argTypes := #[9, 24] }, type := 26, pos := _, after := _, guard := none }) rfl (fun K hK => ?_) AllReadyH.nil)
  go_simp
  have QC := WE.out W4 hS.1
  refine Calls.mono QC ?_
  clear QC
  rintro e W5 ⟨hb4, qa4, qc4, qf4, rfl, hqc4, hqd4⟩
  have BX_4 : Hid (W5.heap[W1.heap.size]? = some (.cells #[.string ⟨#[]⟩, .slice none 0 0, .slice none 0 0, .slice none 0 0] 30 (0, 0))) := (hb4.block _ (Array.getElem?_eq_some_iff.1 BX_3.out).1).trans BX_3.out
  have QA_4 : Hid (∃ f, Dn W5 f va dA.kids) := (by obtain ⟨f, hf⟩ := QA_3.out; exact ⟨f, hf.lift hb4⟩)
  have QB_4 : Hid (∃ f, Dn W5 f qa4 dB.kids) := ⟨qf4, hqd4⟩
  have QBL : Hid (dB.kids.length ≤ qc4) := hqc4
  have hS4 := And.intro (hS.1.trans (hb4.mono hS.1.size)) (Nat.le_trans hS.2 hb4.size)
  clear hb4 hqc4 hqd4
  try unfold dv
  show K _ W5
  refine hK.out _ _ hS4 (fun hS => ?_)
  clear hK K
  refine wpAnyH_ready (rs := [12]) (by kernel_rfl) (by simp) (AllReadyH.cons (o := { dst := some 24, op := Op.buildSlice 24 2 #[(0, Operand.tmp 20), (1, Operand.tmp 23)], type := 24, pos := _, after := _, guard := none }) rfl (fun K hK => ?_) AllReadyH.nil)
  go_simp
  have hb5 : Below W5.heap.size W5 (W5.alloc (.cells #[.int .i64 dA.kind, .int .i64 dA.n, .string dA.name, .int .i64 dA.stamp, .int .i64 dA.lib, .slice va dA.kids.length vc, .int .i64 dB.kind, .int .i64 dB.n, .string dB.name, .int .i64 dB.stamp, .int .i64 dB.lib, .slice qa4 dB.kids.length qc4] 26)) := (Below.refl _ _).alloc (Nat.le_refl _) _
  have SA_5 : Hid (∃ f, Dn (W5.alloc (.cells #[.int .i64 dA.kind, .int .i64 dA.n, .string dA.name, .int .i64 dA.stamp, .int .i64 dA.lib, .slice va dA.kids.length vc, .int .i64 dB.kind, .int .i64 dB.n, .string dB.name, .int .i64 dB.stamp, .int .i64 dB.lib, .slice qa4 dB.kids.length qc4] 26)) f (some ⟨W5.heap.size, 0, none⟩) [dA, dB]) := madeN W5 [(dA, va, vc), (dB, qa4, qc4)] (by simp) (by
    intro e he
    simp at he
    rcases he with rfl | rfl
    · exact ⟨NA.out, QAL.out, QA_4.out⟩
    · exact ⟨NB.out, QBL.out, QB_4.out⟩)
  have hS5 := And.intro (hS.1.trans (hb5.mono hS.1.size)) (Nat.le_trans hS.2 hb5.size)
  change K _ (W5.alloc (.cells #[.int .i64 dA.kind, .int .i64 dA.n, .string dA.name, .int .i64 dA.stamp, .int .i64 dA.lib, .slice va dA.kids.length vc, .int .i64 dB.kind, .int .i64 dB.n, .string dB.name, .int .i64 dB.stamp, .int .i64 dB.lib, .slice qa4 dB.kids.length qc4] 26))
  generalize W5.alloc (.cells #[.int .i64 dA.kind, .int .i64 dA.n, .string dA.name, .int .i64 dA.stamp, .int .i64 dA.lib, .slice va dA.kids.length vc, .int .i64 dB.kind, .int .i64 dB.n, .string dB.name, .int .i64 dB.stamp, .int .i64 dB.lib, .slice qa4 dB.kids.length qc4] 26) = W6 at hb5 SA_5 hS5 ⊢
  have BX_5 : Hid (W6.heap[W1.heap.size]? = some (.cells #[.string ⟨#[]⟩, .slice none 0 0, .slice none 0 0, .slice none 0 0] 30 (0, 0))) := (hb5.block _ (Array.getElem?_eq_some_iff.1 BX_4.out).1).trans BX_4.out
  clear hb5
  refine hK.out _ _ hS5 (fun hS => ?_)
  clear hK K
  refine wpAnyH_ready (rs := [13]) (by kernel_rfl) (by simp) (AllReadyH.cons (o := { dst := some 25, op := Op.call { callee := Callee.value (Operand.tmp 15), args := #[Operand.const (Value.string { data := #[99, 111, 110, 100, 45, 101, 120, 112, 97, 110, 100] }), Operand.tmp 24], argTypes := #[9, 24] }, type := 26, pos := _, after := _, guard := none }) rfl (fun K hK => ?_) AllReadyH.nil)
  go_simp
  obtain ⟨sf, hsf⟩ := SA_5.out
  have QC := WC.out W6 sf _ hsf
  clear hsf
  refine Calls.mono QC ?_
  clear QC
  rintro e W7 ⟨hb6, qa6, qc6, qf6, rfl, hqc6, hqd6⟩
  have BX_6 : Hid (W7.heap[W1.heap.size]? = some (.cells #[.string ⟨#[]⟩, .slice none 0 0, .slice none 0 0, .slice none 0 0] 30 (0, 0))) := (hb6.block _ (Array.getElem?_eq_some_iff.1 BX_5.out).1).trans BX_5.out
  have SA_6 : Hid (∃ f, Dn W7 f (some ⟨W5.heap.size, 0, none⟩) [dA, dB]) := (by obtain ⟨f, hf⟩ := SA_5.out; exact ⟨f, hf.lift hb6⟩)
  have QC_6 : Hid (∃ f, Dn W7 f qa6 dC.kids) := ⟨qf6, hqd6⟩
  have QCL : Hid (dC.kids.length ≤ qc6) := hqc6
  have hS6 := And.intro (hS.1.trans (hb6.mono hS.1.size)) (Nat.le_trans hS.2 hb6.size)
  clear hb6 hqc6 hqd6
  try unfold dv
  show K _ W7
  refine hK.out _ _ hS6 (fun hS => ?_)
  clear hK K
  refine wpAnyH_ready (rs := [14]) (by kernel_rfl) (by simp) (AllReadyH.cons (o := { dst := some 26, op := Op.buildSlice 24 1 #[(0, Operand.tmp 25)], type := 24, pos := _, after := _, guard := none }) rfl (fun K hK => ?_) AllReadyH.nil)
  go_simp
  have hb7 : Below W7.heap.size W7 (W7.alloc (.cells #[.int .i64 dC.kind, .int .i64 dC.n, .string dC.name, .int .i64 dC.stamp, .int .i64 dC.lib, .slice qa6 dC.kids.length qc6] 26)) := (Below.refl _ _).alloc (Nat.le_refl _) _
  have SB_7 : Hid (∃ f, Dn (W7.alloc (.cells #[.int .i64 dC.kind, .int .i64 dC.n, .string dC.name, .int .i64 dC.stamp, .int .i64 dC.lib, .slice qa6 dC.kids.length qc6] 26)) f (some ⟨W7.heap.size, 0, none⟩) [dC]) := madeN W7 [(dC, qa6, qc6)] (by simp) (by
    intro e he
    simp at he
    subst he
    exact ⟨NC.out, QCL.out, QC_6.out⟩)
  have hS7 := And.intro (hS.1.trans (hb7.mono hS.1.size)) (Nat.le_trans hS.2 hb7.size)
  change K _ (W7.alloc (.cells #[.int .i64 dC.kind, .int .i64 dC.n, .string dC.name, .int .i64 dC.stamp, .int .i64 dC.lib, .slice qa6 dC.kids.length qc6] 26))
  generalize W7.alloc (.cells #[.int .i64 dC.kind, .int .i64 dC.n, .string dC.name, .int .i64 dC.stamp, .int .i64 dC.lib, .slice qa6 dC.kids.length qc6] 26) = W8 at hb7 SB_7 hS7 ⊢
  have BX_7 : Hid (W8.heap[W1.heap.size]? = some (.cells #[.string ⟨#[]⟩, .slice none 0 0, .slice none 0 0, .slice none 0 0] 30 (0, 0))) := (hb7.block _ (Array.getElem?_eq_some_iff.1 BX_6.out).1).trans BX_6.out
  have SA_7 : Hid (∃ f, Dn W8 f (some ⟨W5.heap.size, 0, none⟩) [dA, dB]) := (by obtain ⟨f, hf⟩ := SA_6.out; exact ⟨f, hf.lift hb7⟩)
  clear hb7
  refine hK.out _ _ hS7 (fun hS => ?_)
  clear hK K
  refine wpAnyH_ready (rs := [15]) (by kernel_rfl) (by simp) (AllReadyH.cons (o := { dst := some 27, op := Op.call { callee := Callee.value (Operand.tmp 14), args := #[Operand.tmp 26], argTypes := #[24] }, type := 26, pos := _, after := _, guard := none }) rfl (fun K hK => ?_) AllReadyH.nil)
  go_simp
  obtain ⟨tf, htf⟩ := SB_7.out
  have QC := WP.out W8 tf _ hS.1 htf
  clear htf
  refine Calls.mono QC ?_
  clear QC
  rintro e W9 ⟨hb8, qa8, qc8, qf8, rfl, hqc8, hqd8⟩
  have BX_8 : Hid (W9.heap[W1.heap.size]? = some (.cells #[.string ⟨#[]⟩, .slice none 0 0, .slice none 0 0, .slice none 0 0] 30 (0, 0))) := (hb8.block _ (Array.getElem?_eq_some_iff.1 BX_7.out).1).trans BX_7.out
  have SA_8 : Hid (∃ f, Dn W9 f (some ⟨W5.heap.size, 0, none⟩) [dA, dB]) := (by obtain ⟨f, hf⟩ := SA_7.out; exact ⟨f, hf.lift hb8⟩)
  have SB_8 : Hid (∃ f, Dn W9 f (some ⟨W7.heap.size, 0, none⟩) [dC]) := (by obtain ⟨f, hf⟩ := SB_7.out; exact ⟨f, hf.lift hb8⟩)
  have QP_8 : Hid (∃ f, Dn W9 f qa8 dP.kids) := ⟨qf8, hqd8⟩
  have QPL : Hid (dP.kids.length ≤ qc8) := hqc8
  have hS8 := And.intro (hS.1.trans (hb8.mono hS.1.size)) (Nat.le_trans hS.2 hb8.size)
  clear hb8 hqc8 hqd8
  try unfold dv
  show K _ W9
  refine hK.out _ _ hS8 (fun hS => ?_)
  clear hK K
  refine wpAnyH_ready (rs := [16]) (by kernel_rfl) (by simp) (AllReadyH.cons (o := { dst := some 28, op := Op.call { callee := Callee.value (Operand.func 9), args := #[Operand.const (Value.slice none 0 0), Operand.tmp 12, Operand.tmp 13, Operand.tmp 27], argTypes := #[22, 23, 23, 26] }, type := 32, pos := _, after := _, guard := none }) rfl (fun K hK => ?_) AllReadyH.nil)
  go_simp
  obtain ⟨uf, huf⟩ := QP_8.out
  refine Calls.mono (PQ.out W9 uf qa8 qc8 hS.1 QPL.out huf) ?_
  rintro e W10 ⟨hb9, ea, ne, ec, ia, ni, ic, ba, nb, bc, rfl, hlm⟩
  have LMX : Hid (LibM (fun k => W9.heap.size ≤ k ∧ k < W10.heap.size) (libOf rr) (.slice ea ne ec) (.slice ia ni ic) (.slice ba nb bc) W10 ∧ W1.heap.size + 1 ≤ W9.heap.size) := ⟨hlm, hS.2⟩
  have BX_9 : Hid (W10.heap[W1.heap.size]? = some (.cells #[.string ⟨#[]⟩, .slice none 0 0, .slice none 0 0, .slice none 0 0] 30 (0, 0))) := (hb9.block _ (Array.getElem?_eq_some_iff.1 BX_8.out).1).trans BX_8.out
  have SA_9 : Hid (∃ f, Dn W10 f (some ⟨W5.heap.size, 0, none⟩) [dA, dB]) := (by obtain ⟨f, hf⟩ := SA_8.out; exact ⟨f, hf.lift hb9⟩)
  have SB_9 : Hid (∃ f, Dn W10 f (some ⟨W7.heap.size, 0, none⟩) [dC]) := (by obtain ⟨f, hf⟩ := SB_8.out; exact ⟨f, hf.lift hb9⟩)
  have QP_9 : Hid (∃ f, Dn W10 f qa8 dP.kids) := (by obtain ⟨f, hf⟩ := QP_8.out; exact ⟨f, hf.lift hb9⟩)
  have hS9 := And.intro (hS.1.trans (hb9.mono hS.1.size)) (Nat.le_trans hS.2 hb9.size)
  clear hb9 hlm huf
  show K _ W10
  refine hK.out _ _ hS9 (fun hS => ?_)
  clear hK K
  refine wpAnyH_take (i := 17) (oi := { dst := some 29, op := Op.extract (Operand.tmp 28) 0, type := 30, pos := _, after := _, guard := none }) (v := .agg #[.string (libOf rr).name, .slice ea ne ec, .slice ia ni ic, .slice ba nb bc]) rfl (by kernel_rfl) (by kernel_rfl) (by kernel_rfl) (fun _ _ _ h => h) (Or.inl ⟨by rfl, fun u hu => by go_simp⟩) hS ?_
  simp only [Act.put, List.setIfInBounds_toArray, List.set_cons_zero, List.set_cons_succ]
  refine wpAnyH_take (i := 18) (oi := { dst := some 30, op := Op.extract (Operand.tmp 28) 1, type := 31, pos := _, after := _, guard := none }) (v := .int .i64 (errOf rr)) rfl (by kernel_rfl) (by kernel_rfl) (by kernel_rfl) (fun _ _ _ h => h) (Or.inl ⟨by rfl, fun u hu => by go_simp⟩) hS ?_
  simp only [Act.put, List.setIfInBounds_toArray, List.set_cons_zero, List.set_cons_succ]
  refine wpAnyH_ready (rs := [19]) (by kernel_rfl) (by simp) (AllReadyH.cons (o := { dst := none, op := Op.store 30 (Operand.tmp 10) (Operand.tmp 29), type := 0, pos := _, after := _, guard := none }) rfl (fun K hK => ?_) AllReadyH.nil)
  have bxx := BX_9.out
  rw [HBW.out.2] at bxx
  have hle : W1.heap.size ≤ w.heap.size + 1 := Nat.le_of_eq HBW.out.2
  have q0 : W10.cell? ⟨w.heap.size + 1, 0, none⟩ = some _ := (cellO bxx).trans rfl
  have q1 : W10.cell? ⟨w.heap.size + 1, 1, none⟩ = some _ := (cellO bxx).trans rfl
  have q2 : W10.cell? ⟨w.heap.size + 1, 2, none⟩ = some _ := (cellO bxx).trans rfl
  have q3 : W10.cell? ⟨w.heap.size + 1, 3, none⟩ = some _ := (cellO bxx).trans rfl
  have z0 : W10.frozen? ⟨w.heap.size + 1, 0, none⟩ = false := by simp [World.frozen?, bxx]
  have z1 : W10.frozen? ⟨w.heap.size + 1, 1, none⟩ = false := by simp [World.frozen?, bxx]
  have z2 : W10.frozen? ⟨w.heap.size + 1, 2, none⟩ = false := by simp [World.frozen?, bxx]
  have z3 : W10.frozen? ⟨w.heap.size + 1, 3, none⟩ = false := by simp [World.frozen?, bxx]
  go_simp
  refine hK.out _ _ ⟨(((hS.1.setCell (p := ⟨w.heap.size + 1, 0, none⟩) hle _).setCell (p := ⟨w.heap.size + 1, 1, none⟩) hle _).setCell (p := ⟨w.heap.size + 1, 2, none⟩) hle _).setCell (p := ⟨w.heap.size + 1, 3, none⟩) hle _, by simpa using hS.2⟩ (fun hS => ?_)
  clear hK K
  refine wpAnyH_take (i := 20) (oi := { dst := some 11, op := Op.assign (Operand.tmp 30), type := 31, pos := _, after := _, guard := none }) (v := .int .i64 (errOf rr)) rfl (by kernel_rfl) (by kernel_rfl) (by kernel_rfl) (fun _ _ _ h => h) (Or.inl ⟨by rfl, fun u hu => by go_simp⟩) hS ?_
  simp only [Act.put, List.setIfInBounds_toArray, List.set_cons_zero, List.set_cons_succ]
  refine wpAnyH_done (by kernel_rfl) ?_ _
  go_wp2_with fail
  refine bodyPost_ret (v := .tuple #[.agg #[.string (libOf rr).name, .slice ea ne ec, .slice ia ni ic, .slice ba nb bc], .int .i64 (errOf rr)]) (by simp [results, Tryz.results24, go_sem, q0, q1, q2, q3, z0, z1, z2, z3]) rfl ⟨HBW.out.1.trans (hS.1.mono HBW.out.1.size), ea, ne, ec, ia, ni, ic, ba, nb, bc, rfl, ?_⟩
  refine LMX.out.1.stay (fun k hk => ?_) (fun k hk => ⟨?_, ?_⟩)
  · exact (((((Keep.refl (w.heap.size + 1) W10).setCell ⟨w.heap.size + 1, 0, none⟩ rfl _).setCell ⟨w.heap.size + 1, 1, none⟩ rfl _).setCell ⟨w.heap.size + 1, 2, none⟩ rfl _).setCell ⟨w.heap.size + 1, 3, none⟩ rfl _).block k hk.2 (by have := LMX.out.2; have := hk.1; have := HBW.out.2; simp; omega)
  · have := LMX.out.2; have := hk.1; have := HBW.out.2; omega
  · simp; exact hk.2
end Go.Proofs.YtonafbennobgdaaGreatDoor
