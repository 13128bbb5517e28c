/- Chapter 3's laws: a library of one's own is parsed. -/
import Derived.Test.YtonafbennobgdaaGreatDoorK41
namespace Go.Proofs.YtonafbennobgdaaGreatDoor
set_option linter.unusedVariables false
set_option linter.unusedSimpArgs false
open Go.RowKit

def libOf : Er LibS → LibS
  | .ok s => s
  | .no _ => lib0
def errOf : Er LibS → Int
  | .ok _ => 0
  | .no x => x
def ToldQ (r : Er LibS) (w : World) (e : Ending) (w' : World) : Prop := Below w.heap.size w w' ∧ ∃ ea nx ec ia ni ic ba nb bc, e = .returned (.tuple #[.agg #[.string (libOf r).name, .slice ea nx ec, .slice ia ni ic, .slice ba nb bc], .int .i64 (errOf r)]) ∧ LibM (fun k => w.heap.size ≤ k ∧ k < w'.heap.size) (libOf r) (.slice ea nx ec) (.slice ia ni ic) (.slice ba nb bc) w'
theorem lib0M (ok : Nat → Prop) (w : World) : LibM ok lib0 (.slice none 0 0) (.slice none 0 0) (.slice none 0 0) w :=
  ⟨⟨none, 0, rfl, Nat.le_refl _, Or.inl rfl⟩, .none none 0, ⟨none, 0, 0, rfl, Nat.le_refl _, rfl⟩⟩
theorem ToldA.q {r : Er LibS} {w w' : World} {e : Ending} (h : ToldA r w e w') : ToldQ r w e w' := by
  obtain ⟨hb, h⟩ := h
  refine ⟨hb, ?_⟩
  cases r with
  | ok s =>
    obtain ⟨ev, iv, bv, rfl, hm⟩ := h
    obtain ⟨ea, ec, rfl, _⟩ := hm.ex
    obtain ⟨ia, ni, ic, rfl⟩ := SeL.slice hm.im
    obtain ⟨ba, bc, bf, rfl, _⟩ := hm.bo
    exact ⟨_, _, _, _, _, _, _, _, _, rfl, hm⟩
  | no x => exact ⟨_, _, _, _, _, _, _, _, _, h, lib0M _ _⟩
theorem EnvW.grow {A B : Nat} {E : Env} {f1 f2 f3 : Value} {w : World} (h : EnvW A E f1 f2 f3 w) (hA : A ≤ B) : EnvW B E f1 f2 f3 w :=
  ⟨h.fl.stay (fun _ _ => rfl) (fun _ hk => Nat.lt_of_lt_of_le hk hA), h.fe.stay (fun _ _ => rfl) (fun _ hk => Nat.lt_of_lt_of_le hk hA), h.li.stay (fun _ _ => rfl) (fun _ hk => Nat.lt_of_lt_of_le hk hA), h.flL, h.feL, h.liL⟩
set_option maxRecDepth 100000 in
set_option maxHeartbeats 6400000 in
theorem pcl_any (E : Env) (a1 a2 a3 : Option Addr) (n1 n2 n3 c1 c2 c3 : Nat) (p1 p2 p3 : Nat) (l : List Dat) (a : Option Addr) (cap F : Nat) (w : World) (h0 : 0 < w.heap.size) (ht : TabW w) (he : EnvW w.heap.size E (.slice a1 n1 c1) (.slice a2 n2 c2) (.slice a3 n3 c3) w)
    (hp1 : w.cell? ⟨p1, 0, none⟩ = some (.slice a1 n1 c1)) (hp2 : w.cell? ⟨p2, 0, none⟩ = some (.slice a2 n2 c2)) (hp3 : w.cell? ⟨p3, 0, none⟩ = some (.slice a3 n3 c3)) (hd : Dn w F a l) (hl : l.length ≤ 10000000) :
    Calls Tryz.prog 26 #[.slice a l.length cap, .pointer (some ⟨p1, 0, none⟩), .pointer (some ⟨p2, 0, none⟩), .pointer (some ⟨p3, 0, none⟩)] w (ToldQ (parseF E (libM l)) w) := by
  have e1 := World.block_lt_of_cell? w ⟨p1, 0, none⟩ hp1
  have e2 := World.block_lt_of_cell? w ⟨p2, 0, none⟩ hp2
  have e3 := World.block_lt_of_cell? w ⟨p3, 0, none⟩ hp3
  simp only at e1 e2 e3
  have SL : Hid (∀ W, Calls Tryz.prog 21 #[.string bLibrary] W fun e w' => e = .returned (dv (syD bLibrary) none 0) ∧ Below W.heap.size W w') := fun W => Sym_any bLibrary W
  have SM : Hid (∀ W, Calls Tryz.prog 21 #[.string bM] W fun e w' => e = .returned (dv (syD bM) none 0) ∧ Below W.heap.size W w') := fun W => Sym_any bM W
  have LM : Hid (∀ W q, Calls Tryz.prog 20 #[.slice q 1 1] W fun e w' => e = .returned (dv (liD [syD bM]) q 1) ∧ Below W.heap.size W w') := fun W q => List_any [syD bM] q 1 W
  have LQ : Hid (∀ W q m c, m = (libM l).kids.length → Calls Tryz.prog 20 #[.slice q m c] W fun e w' => e = .returned (dv (libM l) q c) ∧ Below W.heap.size W w') := fun W q m c hm => by subst hm; exact List_any (libM l).kids q c W
  have PQ : Hid (∀ W q c f, Below w.heap.size w W → (libM l).kids.length ≤ c → Dn W f q (libM l).kids → Calls Tryz.prog 9 #[.slice a1 n1 c1, .slice a2 n2 c2, .slice a3 n3 c3, dv (libM l) q c] W (ToldQ (parseF E (libM l)) W)) := fun W q c f hb hc hq =>
    (Parse_any W.heap.size f E _ _ _ (libM l) q c W (Nat.le_refl _) (Nat.lt_of_lt_of_le h0 hb.size) ((he.below hb).grow hb.size) (ht.below hb h0) hq hc (Nat.zero_le _)).mono fun _ _ h => h.q
  have RW2 : Hid (∀ W f q, Dn W f q [syD bM] → RowD W.heap.size (.slice (some ⟨W.heap.size, 0, none⟩) 2 2) [(syD bLibrary, none, 0), (liD [syD bM], q, 1)] (W.alloc (.cells (flat [(syD bLibrary, none, 0), (liD [syD bM], q, 1)]).toArray 26))) := fun W f q hq => RowD.made W [(syD bLibrary, none, 0), (liD [syD bM], q, 1)] (by simp [maxLen]) (by
    intro e he
    simp at he
    rcases he with rfl | rfl
    · exact ⟨by show bLibrary.size ≤ maxLen; decide, Nat.le_refl 0, 0, rfl⟩
    · exact ⟨Nat.zero_le _, Nat.le_refl 1, f, hq⟩)
  have DM : Hid (∀ W c, W.heap[c]? = some (.cells (flat [(syD bM, none, 0)]).toArray 26 (0, 0)) → Dn W 1 (some ⟨c, 0, none⟩) [syD bM]) := fun W c hc => by
    refine ⟨by simp, Or.inr ⟨c, 0, rfl, (Array.getElem?_eq_some_iff.1 hc).1, fun i d hi => ?_⟩⟩
    match i, hi with
    | 0, hi =>
      obtain rfl := Option.some.inj hi
      have k : ∀ q, W.cell? ⟨c, q, none⟩ = (flat [(syD bM, none, 0)])[q]? := fun q => (cellO hc).trans (by simp)
      exact ⟨none, 0, (k 0).trans rfl, (k 1).trans rfl, (k 2).trans rfl, (k 3).trans rfl, (k 4).trans rfl, (k 5).trans rfl, by decide, Nat.le_refl 0, rfl⟩
    | i + 1, hi => simp at hi
  have KL : Hid ((libM l).kids = syD bLibrary :: liD [syD bM] :: l) := rfl
  generalize parseF E (libM l) = r at PQ ⊢
  generalize libM l = dq at PQ LQ KL
  generalize hdl : syD bLibrary = dL at *
  generalize hdm : syD bM = dM at *
  generalize hdn : liD [dM] = dN at *
  have HD := hidd hd
  have HL := hidd hl
  have B1 : Hid ((w.alloc (.cells #[.string ⟨#[]⟩, .slice none 0 0, .slice none 0 0, .slice none 0 0] 30)).heap.size = w.heap.size + 1) := by show _ = _; simp
  have BB : Hid (Below w.heap.size w (w.alloc (.cells #[.string ⟨#[]⟩, .slice none 0 0, .slice none 0 0, .slice none 0 0] 30))) := (Below.refl _ _).alloc (Nat.le_refl _) _
  have BX : Hid ((w.alloc (.cells #[.string ⟨#[]⟩, .slice none 0 0, .slice none 0 0, .slice none 0 0] 30)).heap[w.heap.size]? = some (.cells #[.string ⟨#[]⟩, .slice none 0 0, .slice none 0 0, .slice none 0 0] 30 (0, 0))) := World.alloc_heap_new w _
  obtain ⟨n, hn⟩ : ∃ n, n = l.length := ⟨_, rfl⟩
  have HN := hidd hn
  rw [← hn]
  clear hd hl h0 ht he hdl hdm hdn hn
  go_enter Tryz.func26, Tryz.ntmps26
  go_upto_region 1 with fail
  generalize w.alloc (.cells #[.string ⟨#[]⟩, .slice none 0 0, .slice none 0 0, .slice none 0 0] 30) = W0 at BB BX B1 ⊢
  have BX_0 : Hid (W0.drew.heap[w.heap.size]? = some (.cells #[.string ⟨#[]⟩, .slice none 0 0, .slice none 0 0, .slice none 0 0] 30 (0, 0))) := BX.out
  clear BX
  refine wp_region_held_drew (S := fun u => Below w.heap.size w u ∧ w.heap.size + 1 ≤ u.heap.size) (by kernel_rfl) ⟨Below.drew BB.out, by have := B1.out; show _ ≤ W0.heap.size; omega⟩ (fun hS => ?_)
  refine wpAnyH_take (i := 0) (oi := { dst := some 7, op := Op.load 22 (Operand.tmp 1), type := 22, pos := _, after := _, guard := none }) (v := .slice a1 n1 c1) rfl (by kernel_rfl) (by kernel_rfl) (by kernel_rfl) (fun _ _ _ h => h) (Or.inl ⟨by rfl, fun u hu => by (have z0 := (hu.1.cell (p := ⟨p1, 0, none⟩) e1).trans hp1; go_simp)⟩) hS ?_
  simp only [Act.put, List.setIfInBounds_toArray, List.set_cons_zero, List.set_cons_succ]
  refine wpAnyH_take (i := 1) (oi := { dst := some 8, op := Op.load 23 (Operand.tmp 2), type := 23, pos := _, after := _, guard := none }) (v := .slice a2 n2 c2) rfl (by kernel_rfl) (by kernel_rfl) (by kernel_rfl) (fun _ _ _ h => h) (Or.inl ⟨by rfl, fun u hu => by (have z0 := (hu.1.cell (p := ⟨p2, 0, none⟩) e2).trans hp2; go_simp)⟩) hS ?_
  simp only [Act.put, List.setIfInBounds_toArray, List.set_cons_zero, List.set_cons_succ]
  refine wpAnyH_take (i := 2) (oi := { dst := some 9, op := Op.load 23 (Operand.tmp 3), type := 23, pos := _, after := _, guard := none }) (v := .slice a3 n3 c3) rfl (by kernel_rfl) (by kernel_rfl) (by kernel_rfl) (fun _ _ _ h => h) (Or.inl ⟨by rfl, fun u hu => by (have z0 := (hu.1.cell (p := ⟨p3, 0, none⟩) e3).trans hp3; go_simp)⟩) hS ?_
  simp only [Act.put, List.setIfInBounds_toArray, List.set_cons_zero, List.set_cons_succ]
  refine wpAnyH_take (i := 8) (oi := { dst := some 15, op := Op.move (Operand.tmp 0), type := 24, pos := _, after := _, guard := none }) (v := .slice a n cap) rfl (by kernel_rfl) (by kernel_rfl) (by kernel_rfl) (fun _ _ _ h => h) (Or.inl ⟨by rfl, fun u hu => by go_simp⟩) hS ?_
  simp only [Act.put, List.setIfInBounds_toArray, List.set_cons_zero, List.set_cons_succ]
  refine wpAnyH_ready (rs := [3]) (by kernel_rfl) (by simp) (AllReadyH.cons (o := { dst := some 10, op := Op.call { callee := Callee.value (Operand.func 21), args := #[Operand.const (Value.string { data := #[108, 105, 98, 114, 97, 114, 121] })], argTypes := #[9] }, type := 26, pos := _, after := _, guard := none }) rfl (fun K hK => ?_) AllReadyH.nil)
  go_simp
  refine Calls.mono (SL.out W0.drew) ?_
  rintro e W1 ⟨rfl, hb1⟩
  have BX_1 : Hid (W1.heap[w.heap.size]? = some (.cells #[.string ⟨#[]⟩, .slice none 0 0, .slice none 0 0, .slice none 0 0] 30 (0, 0))) := (hb1.block _ (Array.getElem?_eq_some_iff.1 BX_0.out).1).trans BX_0.out
  have hS1 := And.intro (hS.1.trans (hb1.mono hS.1.size)) (Nat.le_trans hS.2 hb1.size)
  clear hb1
  try unfold dv
  show K _ W1
  refine hK.out _ _ hS1 (fun hS => ?_)
  clear hK K
  refine wpAnyH_ready (rs := [4]) (by kernel_rfl) (by simp) (AllReadyH.cons (o := { dst := some 11, op := Op.call { callee := Callee.value (Operand.func 21), args := #[Operand.const (Value.string { data := #[109] })], argTypes := #[9] }, type := 26, pos := _, after := _, guard := none }) rfl (fun K hK => ?_) AllReadyH.nil)
  go_simp
  refine Calls.mono (SM.out W1) ?_
  rintro e W2 ⟨rfl, hb2⟩
  have BX_2 : Hid (W2.heap[w.heap.size]? = some (.cells #[.string ⟨#[]⟩, .slice none 0 0, .slice none 0 0, .slice none 0 0] 30 (0, 0))) := (hb2.block _ (Array.getElem?_eq_some_iff.1 BX_1.out).1).trans BX_1.out
  have hS2 := And.intro (hS.1.trans (hb2.mono hS.1.size)) (Nat.le_trans hS.2 hb2.size)
  clear hb2
  try unfold dv
  show K _ W2
  refine hK.out _ _ hS2 (fun hS => ?_)
  clear hK K
  refine wpAnyH_ready (rs := [5]) (by kernel_rfl) (by simp) (AllReadyH.cons (o := { dst := some 12, op := Op.buildSlice 24 1 #[(0, Operand.tmp 11)], type := 24, pos := _, after := _, guard := none }) rfl (fun K hK => ?_) AllReadyH.nil)
  go_simp
  have hb3 : Below W2.heap.size W2 (W2.alloc (.cells #[.int .i64 dM.kind, .int .i64 dM.n, .string dM.name, .int .i64 dM.stamp, .int .i64 dM.lib, .slice none dM.kids.length 0] 26)) := (Below.refl _ _).alloc (Nat.le_refl _) _
  have MS_3 : Hid ((W2.alloc (.cells #[.int .i64 dM.kind, .int .i64 dM.n, .string dM.name, .int .i64 dM.stamp, .int .i64 dM.lib, .slice none dM.kids.length 0] 26)).heap[W2.heap.size]? = some (.cells (flat [(dM, none, 0)]).toArray 26 (0, 0))) := World.alloc_heap_new W2 _
  have hS3 := And.intro (hS.1.trans (hb3.mono hS.1.size)) (Nat.le_trans hS.2 hb3.size)
  change K _ (W2.alloc (.cells #[.int .i64 dM.kind, .int .i64 dM.n, .string dM.name, .int .i64 dM.stamp, .int .i64 dM.lib, .slice none dM.kids.length 0] 26))
  generalize W2.alloc (.cells #[.int .i64 dM.kind, .int .i64 dM.n, .string dM.name, .int .i64 dM.stamp, .int .i64 dM.lib, .slice none dM.kids.length 0] 26) = W3 at hb3 MS_3 hS3 ⊢
  have BX_3 : Hid (W3.heap[w.heap.size]? = some (.cells #[.string ⟨#[]⟩, .slice none 0 0, .slice none 0 0, .slice none 0 0] 30 (0, 0))) := (hb3.block _ (Array.getElem?_eq_some_iff.1 BX_2.out).1).trans BX_2.out
  clear hb3
  refine hK.out _ _ hS3 (fun hS => ?_)
  clear hK K
  refine wpAnyH_ready (rs := [6]) (by kernel_rfl) (by simp) (AllReadyH.cons (o := { dst := some 13, op := Op.call { callee := Callee.value (Operand.func 20), args := #[Operand.tmp 12], argTypes := #[24] }, type := 26, pos := _, after := _, guard := none }) rfl (fun K hK => ?_) AllReadyH.nil)
  go_simp
  refine Calls.mono (LM.out W3 _) ?_
  rintro e W4 ⟨rfl, hb4⟩
  have BX_4 : Hid (W4.heap[w.heap.size]? = some (.cells #[.string ⟨#[]⟩, .slice none 0 0, .slice none 0 0, .slice none 0 0] 30 (0, 0))) := (hb4.block _ (Array.getElem?_eq_some_iff.1 BX_3.out).1).trans BX_3.out
  have MS_4 : Hid (W4.heap[W2.heap.size]? = some (.cells (flat [(dM, none, 0)]).toArray 26 (0, 0))) := (hb4.block _ (Array.getElem?_eq_some_iff.1 MS_3.out).1).trans MS_3.out
  have hS4 := And.intro (hS.1.trans (hb4.mono hS.1.size)) (Nat.le_trans hS.2 hb4.size)
  clear hb4
  try unfold dv
  show K _ W4
  refine hK.out _ _ hS4 (fun hS => ?_)
  clear hK K
  refine wpAnyH_ready (rs := [7]) (by kernel_rfl) (by simp) (AllReadyH.cons (o := { dst := some 14, op := Op.buildSlice 24 2 #[(0, Operand.tmp 10), (1, Operand.tmp 13)], type := 24, pos := _, after := _, guard := none }) rfl (fun K hK => ?_) AllReadyH.nil)
  go_simp
  have hb5 : Below W4.heap.size W4 (W4.alloc (.cells #[.int .i64 dL.kind, .int .i64 dL.n, .string dL.name, .int .i64 dL.stamp, .int .i64 dL.lib, .slice none dL.kids.length 0, .int .i64 dN.kind, .int .i64 dN.n, .string dN.name, .int .i64 dN.stamp, .int .i64 dN.lib, .slice (some ⟨W2.heap.size, 0, none⟩) dN.kids.length 1] 26)) := (Below.refl _ _).alloc (Nat.le_refl _) _
  have RS_5 : Hid (RowD W4.heap.size (.slice (some ⟨W4.heap.size, 0, none⟩) 2 2) [(dL, none, 0), (dN, (some ⟨W2.heap.size, 0, none⟩), 1)] (W4.alloc (.cells #[.int .i64 dL.kind, .int .i64 dL.n, .string dL.name, .int .i64 dL.stamp, .int .i64 dL.lib, .slice none dL.kids.length 0, .int .i64 dN.kind, .int .i64 dN.n, .string dN.name, .int .i64 dN.stamp, .int .i64 dN.lib, .slice (some ⟨W2.heap.size, 0, none⟩) dN.kids.length 1] 26))) := RW2.out W4 1 (some ⟨W2.heap.size, 0, none⟩) (DM.out _ _ MS_4.out)
  have RB_5 : Hid (w.heap.size + 1 ≤ W4.heap.size ∧ Below W4.heap.size W4 (W4.alloc (.cells #[.int .i64 dL.kind, .int .i64 dL.n, .string dL.name, .int .i64 dL.stamp, .int .i64 dL.lib, .slice none dL.kids.length 0, .int .i64 dN.kind, .int .i64 dN.n, .string dN.name, .int .i64 dN.stamp, .int .i64 dN.lib, .slice (some ⟨W2.heap.size, 0, none⟩) dN.kids.length 1] 26))) := ⟨hS.2, hb5⟩
  have hS5 := And.intro (hS.1.trans (hb5.mono hS.1.size)) (Nat.le_trans hS.2 hb5.size)
  change K _ (W4.alloc (.cells #[.int .i64 dL.kind, .int .i64 dL.n, .string dL.name, .int .i64 dL.stamp, .int .i64 dL.lib, .slice none dL.kids.length 0, .int .i64 dN.kind, .int .i64 dN.n, .string dN.name, .int .i64 dN.stamp, .int .i64 dN.lib, .slice (some ⟨W2.heap.size, 0, none⟩) dN.kids.length 1] 26))
  generalize W4.alloc (.cells #[.int .i64 dL.kind, .int .i64 dL.n, .string dL.name, .int .i64 dL.stamp, .int .i64 dL.lib, .slice none dL.kids.length 0, .int .i64 dN.kind, .int .i64 dN.n, .string dN.name, .int .i64 dN.stamp, .int .i64 dN.lib, .slice (some ⟨W2.heap.size, 0, none⟩) dN.kids.length 1] 26) = W5 at hb5 RS_5 RB_5 hS5 ⊢
  have BX_5 : Hid (W5.heap[w.heap.size]? = some (.cells #[.string ⟨#[]⟩, .slice none 0 0, .slice none 0 0, .slice none 0 0] 30 (0, 0))) := (hb5.block _ (Array.getElem?_eq_some_iff.1 BX_4.out).1).trans BX_4.out
  have MS_5 : Hid (W5.heap[W2.heap.size]? = some (.cells (flat [(dM, none, 0)]).toArray 26 (0, 0))) := (hb5.block _ (Array.getElem?_eq_some_iff.1 MS_4.out).1).trans MS_4.out
  clear hb5
  refine hK.out _ _ hS5 (fun hS => ?_)
  clear hK K
  refine wpAnyH_ready (rs := [9]) (by kernel_rfl) (by simp) (AllReadyH.cons (o := { dst := some 16, op := Op.call { callee := Callee.builtin Builtin.append, args := #[Operand.tmp 14, Operand.tmp 15], argTypes := #[24, 24] }, type := 24, pos := _, after := _, guard := none }) rfl (fun K hK => ?_) AllReadyH.nil)
  refine step_rowD rfl (.tmp 14) (.tmp 15) rfl (by exact RS_5.out) (W0 := w) (F := F) (a := a) (l := l) (cap := cap) rfl (by rw [← HN.out]; rfl) HD.out hS.1 (Nat.le_of_succ_le RB_5.out.1) RB_5.out.2.size (by have := HL.out; simp; omega) ?_
  intro v6 W6 fs hfs hr hb hkf
  obtain ⟨va, vc, vf, hva, hvc, hdd⟩ := hr.lieN (by have h1 := congrArg List.length hfs; have h2 := HL.out; rw [List.length_map] at h1; simp; omega)
  have hmp : List.map (fun x : Dat × Option Addr × Nat => x.1) ([(dL, none, 0), (dN, (some ⟨W2.heap.size, 0, none⟩), 1)] ++ fs) = dq.kids := by rw [KL.out]; simp [hfs]
  rw [hmp] at hva hvc hdd
  subst hva
  have BX_6 : Hid (W6.heap[w.heap.size]? = some (.cells #[.string ⟨#[]⟩, .slice none 0 0, .slice none 0 0, .slice none 0 0] 30 (0, 0))) := (hb.block _ (by have := RB_5.out.1; omega)).trans BX_5.out
  have HQ_6 : Hid (dq.kids.length ≤ vc ∧ Dn W6 vf va dq.kids) := ⟨hvc, hdd⟩
  have hS6 : Below w.heap.size w W6 ∧ w.heap.size + 1 ≤ W6.heap.size := ⟨hS.1.trans (hb.mono (Nat.le_of_succ_le RB_5.out.1)), Nat.le_trans hS.2 hb.size⟩
  clear hr hb hkf hmp hvc hdd hfs
  obtain ⟨m, hm⟩ : ∃ m, m = dq.kids.length := ⟨_, rfl⟩
  rw [← hm]
  have HM := hidd hm
  clear hm
  skip
  show K _ W6
  refine hK.out _ _ hS6 (fun hS => ?_)
  clear hK K
  refine wpAnyH_ready (rs := [10]) (by kernel_rfl) (by simp) (AllReadyH.cons (o := { dst := some 17, op := Op.call { callee := Callee.value (Operand.func 20), args := #[Operand.tmp 16], argTypes := #[24] }, type := 26, pos := _, after := _, guard := none }) rfl (fun K hK => ?_) AllReadyH.nil)
  go_simp
  refine Calls.mono (LQ.out W6 va m vc HM.out) ?_
  rintro e W7 ⟨rfl, hb7⟩
  have BX_7 : Hid (W7.heap[w.heap.size]? = some (.cells #[.string ⟨#[]⟩, .slice none 0 0, .slice none 0 0, .slice none 0 0] 30 (0, 0))) := (hb7.block _ (Array.getElem?_eq_some_iff.1 BX_6.out).1).trans BX_6.out
  have HQ_7 : Hid (dq.kids.length ≤ vc ∧ Dn W7 vf va dq.kids) := ⟨HQ_6.out.1, HQ_6.out.2.lift hb7⟩
  have hS7 := And.intro (hS.1.trans (hb7.mono hS.1.size)) (Nat.le_trans hS.2 hb7.size)
  clear hb7
  try unfold dv
  show K _ W7
  refine hK.out _ _ hS7 (fun hS => ?_)
  clear hK K
  refine wpAnyH_ready (rs := [11]) (by kernel_rfl) (by simp) (AllReadyH.cons (o := { dst := some 18, op := Op.call { callee := Callee.value (Operand.func 9), args := #[Operand.tmp 7, Operand.tmp 8, Operand.tmp 9, Operand.tmp 17], argTypes := #[22, 23, 23, 26] }, type := 32, pos := _, after := _, guard := none }) rfl (fun K hK => ?_) AllReadyH.nil)
  go_simp
  refine Calls.mono (PQ.out W7 va vc vf hS.1 HQ_7.out.1 HQ_7.out.2) ?_
  rintro e W8 ⟨hb8, ea, nx, ec, ia, ni, ic, ba, nb, bc, rfl, hlm⟩
  have LMX : Hid (LibM (fun k => W7.heap.size ≤ k ∧ k < W8.heap.size) (libOf r) (.slice ea nx ec) (.slice ia ni ic) (.slice ba nb bc) W8 ∧ w.heap.size + 1 ≤ W7.heap.size) := ⟨hlm, hS.2⟩
  have BX_8 : Hid (W8.heap[w.heap.size]? = some (.cells #[.string ⟨#[]⟩, .slice none 0 0, .slice none 0 0, .slice none 0 0] 30 (0, 0))) := (hb8.block _ (Array.getElem?_eq_some_iff.1 BX_7.out).1).trans BX_7.out
  have HQ_8 : Hid (dq.kids.length ≤ vc ∧ Dn W8 vf va dq.kids) := ⟨HQ_7.out.1, HQ_7.out.2.lift hb8⟩
  have hS8 := And.intro (hS.1.trans (hb8.mono hS.1.size)) (Nat.le_trans hS.2 hb8.size)
  clear hb8 hlm
  show K _ W8
  refine hK.out _ _ hS8 (fun hS => ?_)
  clear hK K
  refine wpAnyH_take (i := 12) (oi := { dst := some 19, op := Op.extract (Operand.tmp 18) 0, type := 30, pos := _, after := _, guard := none }) (v := .agg #[.string (libOf r).name, .slice ea nx ec, .slice ia ni ic, .slice ba nb bc]) rfl (by kernel_rfl) (by kernel_rfl) (by kernel_rfl) (fun _ _ _ h => h) (Or.inl ⟨by rfl, fun u hu => by go_simp⟩) hS ?_
  simp only [Act.put, List.setIfInBounds_toArray, List.set_cons_zero, List.set_cons_succ]
  refine wpAnyH_take (i := 13) (oi := { dst := some 20, op := Op.extract (Operand.tmp 18) 1, type := 31, pos := _, after := _, guard := none }) (v := .int .i64 (errOf r)) rfl (by kernel_rfl) (by kernel_rfl) (by kernel_rfl) (fun _ _ _ h => h) (Or.inl ⟨by rfl, fun u hu => by go_simp⟩) hS ?_
  simp only [Act.put, List.setIfInBounds_toArray, List.set_cons_zero, List.set_cons_succ]
  refine wpAnyH_ready (rs := [14]) (by kernel_rfl) (by simp) (AllReadyH.cons (o := { dst := none, op := Op.store 30 (Operand.tmp 5) (Operand.tmp 19), type := 0, pos := _, after := _, guard := none }) rfl (fun K hK => ?_) AllReadyH.nil)
  have q0 : W8.cell? ⟨w.heap.size, 0, none⟩ = some _ := (cellO BX_8.out).trans rfl
  have q1 : W8.cell? ⟨w.heap.size, 1, none⟩ = some _ := (cellO BX_8.out).trans rfl
  have q2 : W8.cell? ⟨w.heap.size, 2, none⟩ = some _ := (cellO BX_8.out).trans rfl
  have q3 : W8.cell? ⟨w.heap.size, 3, none⟩ = some _ := (cellO BX_8.out).trans rfl
  have z0 : W8.frozen? ⟨w.heap.size, 0, none⟩ = false := by have := BX_8.out; simp [World.frozen?, this]
  have z1 : W8.frozen? ⟨w.heap.size, 1, none⟩ = false := by have := BX_8.out; simp [World.frozen?, this]
  have z2 : W8.frozen? ⟨w.heap.size, 2, none⟩ = false := by have := BX_8.out; simp [World.frozen?, this]
  have z3 : W8.frozen? ⟨w.heap.size, 3, none⟩ = false := by have := BX_8.out; simp [World.frozen?, this]
  go_simp
  refine hK.out _ _ ⟨(((hS.1.setCell (p := ⟨w.heap.size, 0, none⟩) (Nat.le_refl _) _).setCell (p := ⟨w.heap.size, 1, none⟩) (Nat.le_refl _) _).setCell (p := ⟨w.heap.size, 2, none⟩) (Nat.le_refl _) _).setCell (p := ⟨w.heap.size, 3, none⟩) (Nat.le_refl _) _, by simpa using hS.2⟩ (fun hS => ?_)
  clear hK K
  refine wpAnyH_take (i := 15) (oi := { dst := some 6, op := Op.assign (Operand.tmp 20), type := 31, pos := _, after := _, guard := none }) (v := .int .i64 (errOf r)) rfl (by kernel_rfl) (by kernel_rfl) (by kernel_rfl) (fun _ _ _ h => h) (Or.inl ⟨by rfl, fun u hu => by go_simp⟩) hS ?_
  simp only [Act.put, List.setIfInBounds_toArray, List.set_cons_zero, List.set_cons_succ]
  refine wpAnyH_done (by kernel_rfl) ?_ _
  go_wp2_with fail
  refine bodyPost_ret (v := .tuple #[.agg #[.string (libOf r).name, .slice ea nx ec, .slice ia ni ic, .slice ba nb bc], .int .i64 (errOf r)]) (by simp [results, Tryz.results26, go_sem, q0, q1, q2, q3, z0, z1, z2, z3]) rfl ⟨hS.1, ea, nx, ec, ia, ni, ic, ba, nb, bc, rfl, ?_⟩
  refine LMX.out.1.stay (fun k hk => ?_) (fun k hk => ⟨?_, ?_⟩)
  · exact (((((Keep.refl w.heap.size W8).setCell ⟨w.heap.size, 0, none⟩ rfl _).setCell ⟨w.heap.size, 1, none⟩ rfl _).setCell ⟨w.heap.size, 2, none⟩ rfl _).setCell ⟨w.heap.size, 3, none⟩ rfl _).block k hk.2 (by have := LMX.out.2; have := hk.1; simp; omega)
  · have := LMX.out.2; have := hk.1; omega
  · simp; exact hk.2
end Go.Proofs.YtonafbennobgdaaGreatDoor
