/- Chapter 8's laws: CodeProtos, walked. -/
import Derived.Test.YtbbmdhkbndgdkaaEj
import Derived.Test.YtbbmdhkbndgdkaaEg
namespace Go.Proofs.Ytbbmdhkbndgdkaa
set_option linter.unusedVariables false
set_option linter.unusedSimpArgs false
open Go.RowKit

theorem compile_args {l : List Cor} (hn : nmL l) (h : (compile l).1 = 0) : (compile l).2.map Pro.args = 0 :: argL l ∧ lamL l ≤ 600000 ∧ (compile l).2.length = lamL l + 1 := by
  unfold compile at h ⊢
  by_cases a : wrongB l = 0
  · rw [if_neg (by simpa using a)] at h ⊢
    have hr := wrongB_right a hn
    by_cases b : muchP (protosOf l) = true
    · rw [if_pos b] at h; simp at h
    · rw [if_neg b] at h ⊢
      have h1 := protos_arg l hr.2.1
      refine ⟨h1, hr.2.2.2.2.1, ?_⟩
      have h2 := congrArg List.length h1
      rw [List.length_map, List.length_cons, argL_len] at h2
      exact h2
  · rw [if_pos (by simpa using a)] at h
    exact absurd h a
theorem compile_none {l : List Cor} (h : (compile l).1 ≠ 0) : (compile l).2 = [] := by
  unfold compile at h ⊢
  split
  · rfl
  · split
    · rfl
    · rename_i h1 h2
      rw [if_neg h1, if_neg h2] at h
      exact absurd rfl h

set_option maxRecDepth 100000 in
set_option maxHeartbeats 3200000 in
theorem CodeProtos_walk (F : Nat) (nm : ByteArray) (l : List Cor) (a : Option Addr) (cap : Nat) (w : World) (hc : Cc w.heap.size w F a l) (hcap : l.length ≤ cap) (hn : nmL l) (hnm : nm.size ≤ 281474976710656) :
    Calls Try.prog 4 #[.agg #[.string nm, .slice a l.length cap]] w fun e w' => e = .returned (.bool true) ∧ Below w.heap.size w w' := by
  have hlen := hc.len
  have hb0 : Below w.heap.size w (w.alloc (.cells #[.string nm, .slice a l.length cap] 24)) := (Below.refl _ _).alloc (Nat.le_refl _) _
  have HB0 := hidd hb0
  have HP0 := hidd (World.alloc_heap_new w (.cells #[.string nm, .slice a l.length cap] 24))
  have CO : Hid (∀ W, Below w.heap.size w W → Calls Try.prog 7 #[.agg #[.string nm, .slice a l.length cap]] W (ToldC nm (compile l) W)) := fun W hb => Compile_any w.heap.size F nm l a cap W (hc.below hb) hb.size hcap hn hnm
  have CS : Hid (((compile l).1 = 0 → (compile l).2.map Pro.args = 0 :: argL l ∧ lamL l ≤ 600000 ∧ (compile l).2.length = lamL l + 1) ∧ ((compile l).1 ≠ 0 → (compile l).2 = [])) := ⟨fun h => compile_args hn h, fun h => compile_none h⟩
  have LAM : Hid (∀ W, Below w.heap.size w W → lamL l ≤ 600000 → Calls Try.prog 12 #[.slice a l.length cap] W fun e w' => e = .returned (.int .i64 (lamL l : Nat)) ∧ Below W.heap.size W w') := fun W hb h1 => lambdas_any w.heap.size F l a cap W (hc.below hb) hb.size hcap (by omega)
  have WK : Hid (∀ B ab wb av W, w.heap.size ≤ B → Below w.heap.size w W → lamL l ≤ 600000 → AR B ab av [] W → W.heap[wb]? = some (.cells #[FN11 ab wb] 35 (0, 0)) → Calls Try.prog 11 #[.slice a l.length cap, .pointer (some ⟨ab, 0, none⟩), .pointer (some ⟨wb, 0, none⟩)] W (ToldA B ab av [] (argL l) W)) := fun B ab wb av W hB hb h1 h2 h3 => walk_any w.heap.size B ab wb hB F l a cap av [] W (hc.below hb) hcap (by simp; omega) h2 h3
  clear hc hn hb0
  generalize compile l = RR at CO CS
  obtain ⟨r1, r2⟩ := RR
  simp only at CS
  go_enter Try.func4, Try.ntmps4
  go_wp2_with fail
  refine (alive_any _).mono ?_
  rintro e v0 ⟨rfl, hb⟩
  have HB1 := hidd (HB0.out.trans (hb.mono HB0.out.size))
  have HP1 := hidd ((hb.block _ (Array.getElem?_eq_some_iff.1 HP0.out).1).trans HP0.out)
  have c0 : v0.cell? ⟨w.heap.size, 0, none⟩ = some (.string nm) := (cellOf HP1.out).trans rfl
  have c1 : v0.cell? ⟨w.heap.size, 1, none⟩ = some (.slice a l.length cap) := (cellOf HP1.out).trans rfl
  clear hb HB0 HP0
  go_wp2_with fail
  refine (CO.out _ HB1.out).mono ?_
  rintro e v1 ⟨hb, nm', pv, ps, rfl, hq1, hq2, hps, hpn⟩
  have HB2 := hidd (HB1.out.trans (hb.mono HB1.out.size))
  have HP2 := hidd ((hb.block _ (Array.getElem?_eq_some_iff.1 HP1.out).1).trans HP1.out)
  clear hb HB1 HP1 c0 c1 CO hq2
  simp only at hps hq1
  simp only
  obtain ⟨pa, pc, rfl, hpc, _⟩ := id hpn
  have HPN0 := hidd hpn
  by_cases y0 : r1 = 0
  case neg =>
    have y0' : (r1 != 0) = true := by simpa using y0
    have hr2 := CS.out.2 y0
    have hps0 : ps = [] := by rw [hr2] at hps; simpa using hps
    subst hps0
    have GW := hidd (HB2.out.trans (((Below.refl _ _).alloc (Nat.le_refl _) (.cells #[.string nm', .slice pa 0 pc] 27)).mono HB2.out.size))
    clear CS LAM WK hq1 hps hpn HPN0
    simp only [List.length_nil]
    go_wp2_with fail
    go_ret
    exact ⟨rfl, GW.out⟩
  subst y0
  obtain ⟨s1, s2, s3⟩ := CS.out.1 rfl
  obtain rfl : nm = nm' := (hq1 rfl).symm
  have hpl : ps.length = lamL l + 1 := by rw [← s3, ← hps, List.length_map]
  have BD : Hid (ps.map PE.pro = r2 ∧ r2.map Pro.args = 0 :: argL l ∧ (argL l).length = lamL l) := ⟨hps, s1, argL_len l⟩
  obtain ⟨N, hN⟩ : ∃ N, N = lamL l := ⟨_, rfl⟩
  rw [← hN] at s2 hpl LAM WK BD
  have hN6 : N ≤ 600000 := s2
  obtain ⟨pn, hpn'⟩ : ∃ n, n = ps.length := ⟨_, rfl⟩
  rw [← hpn'] at hpl
  have HPN : Hid (pn = ps.length ∧ pn = N + 1) := ⟨hpn', hpl⟩
  rw [← hpn'] at hpc ⊢
  have hpn6 : pn ≤ 600001 := by omega
  have hqn : (((pn : Nat) : Int) != ((N : Int) + 1)) = false := by simp; omega
  have hwrap : IntKind.i64.wrap ((N : Int) + 1) = (N : Int) + 1 := by
    have hm : ((N : Int) + 1) % 18446744073709551616 = (N : Int) + 1 := by omega
    unfold IntKind.wrap
    simp [IntKind.bits, IntKind.signed, hm]
    omega
  clear CS s1 s2 s3 hps hN hpl hpn' hq1 hpn
  rw [show Value.slice pa ps.length pc = Value.slice pa pn pc by rw [HPN.out.1]] at HPN0
  have ba : Below v1.heap.size v1 (v1.alloc (.cells #[.string nm, .slice pa pn pc] 27)) := (Below.refl _ _).alloc (Nat.le_refl _) _
  have HUB := hidd (World.alloc_heap_new v1 (.cells #[.string nm, .slice pa pn pc] 27))
  have HB3 := hidd (HB2.out.trans (ba.mono HB2.out.size))
  have HP3 := hidd ((ba.block _ (Array.getElem?_eq_some_iff.1 HP2.out).1).trans HP2.out)
  have HPN3 := hidd (HPN0.out.lift ba)
  clear ba HB2 HP2 HPN0
  go_upto_region 6 with fail
  generalize v1.alloc (.cells #[.string nm, .slice pa pn pc] 27) = W1 at HUB HB3 HP3 HPN3 ⊢
  generalize v1.heap.size = ub at HUB ⊢
  have bb : Below W1.heap.size W1 ((W1.alloc (.cells #[.slice none 0 0] 34)).alloc (.cells #[FN11 W1.heap.size (W1.heap.size + 1)] 35)) := ((Below.refl _ _).alloc (Nat.le_refl _) _).alloc (by simp) _
  have AR0 : Hid (AR W1.heap.size W1.heap.size (.slice none 0 0) [] ((W1.alloc (.cells #[.slice none 0 0] 34)).alloc (.cells #[FN11 W1.heap.size (W1.heap.size + 1)] 35))) := ⟨(Below.heap_alloc _ _ _ (by simp)).trans (World.alloc_heap_new W1 _), Nat.le_refl _, World.ownsRow_nil _ _ _ _, by simp [Value.ownBlock]⟩
  have HWB : Hid (((W1.alloc (.cells #[.slice none 0 0] 34)).alloc (.cells #[FN11 W1.heap.size (W1.heap.size + 1)] 35)).heap[W1.heap.size + 1]? = some (.cells #[FN11 W1.heap.size (W1.heap.size + 1)] 35 (0, 0))) := by
    have := World.alloc_heap_new (W1.alloc (.cells #[.slice none 0 0] 34)) (.cells #[FN11 W1.heap.size (W1.heap.size + 1)] 35)
    show _ = _
    simpa using this
  have HUB4 := hidd ((bb.block _ (Array.getElem?_eq_some_iff.1 HUB.out).1).trans HUB.out)
  have HB4 := hidd (HB3.out.trans (bb.mono HB3.out.size))
  have HP4 := hidd ((bb.block _ (Array.getElem?_eq_some_iff.1 HP3.out).1).trans HP3.out)
  have LIFT : Hid (∀ w5, Below W1.heap.size ((W1.alloc (.cells #[.slice none 0 0] 34)).alloc (.cells #[FN11 W1.heap.size (W1.heap.size + 1)] 35)) w5 → PnOk w5.drew (.slice pa pn pc) ps) := fun w5 h => HPN3.out.lift ((bb.trans h).trans (Below.drew (Below.refl _ _)))
  have CW := hidd (WK.out W1.heap.size W1.heap.size (W1.heap.size + 1) (.slice none 0 0) _ HB3.out.size HB4.out hN6 AR0.out HWB.out)
  have hub : ub < W1.heap.size := (Array.getElem?_eq_some_iff.1 HUB.out).1
  have hpb : w.heap.size < W1.heap.size := (Array.getElem?_eq_some_iff.1 HP3.out).1
  have p1 : ((W1.alloc (.cells #[.slice none 0 0] 34)).alloc (.cells #[FN11 W1.heap.size (W1.heap.size + 1)] 35)).cell? ⟨w.heap.size, 1, none⟩ = some (.slice a l.length cap) := (cellOf HP4.out).trans rfl
  have wf : ((W1.alloc (.cells #[.slice none 0 0] 34)).alloc (.cells #[FN11 W1.heap.size (W1.heap.size + 1)] 35)).cell? ⟨W1.heap.size + 1, 0, none⟩ = some (FN11 W1.heap.size (W1.heap.size + 1)) := (cellOf HWB.out).trans rfl
  clear bb HUB HB3 HP3 HPN3 WK
  go_upto_region 9 with fail
  unfold FN11 at wf p1
  change Code.wp _ _ _ _ ((W1.alloc (.cells #[.slice none 0 0] 34)).alloc (.cells #[FN11 W1.heap.size (W1.heap.size + 1)] 35))
  change ((W1.alloc (.cells #[.slice none 0 0] 34)).alloc (.cells #[FN11 W1.heap.size (W1.heap.size + 1)] 35)).cell? _ = _ at wf
  change ((W1.alloc (.cells #[.slice none 0 0] 34)).alloc (.cells #[FN11 W1.heap.size (W1.heap.size + 1)] 35)).cell? _ = _ at p1
  generalize (W1.alloc (.cells #[.slice none 0 0] 34)).alloc (.cells #[FN11 W1.heap.size (W1.heap.size + 1)] 35) = W2 at AR0 HWB HUB4 HB4 HP4 LIFT CW p1 wf ⊢
  generalize W1.heap.size = ab at AR0 HWB CW LIFT wf hub hpb ⊢
  go_wp2_with fail
  refine CW.out.mono ?_
  rintro e w5 ⟨rfl, av5, ar5, fa5⟩
  rw [List.nil_append] at ar5
  have AR5 := hidd (ar5.below (Below.drew (Below.refl _ _)))
  have BX5 := hidd (And.intro ((fa5.keep _ (Array.getElem?_eq_some_iff.1 HP4.out).1 (by omega) (by simp [Value.ownBlock])).trans HP4.out) ((fa5.keep _ (Array.getElem?_eq_some_iff.1 HUB4.out).1 (by omega) (by simp [Value.ownBlock])).trans HUB4.out))
  have HB5 : Hid (Below w.heap.size w w5.drew) := (HB4.out.trans (fa5.low.mono (by omega))).trans (Below.drew (Below.refl _ _))
  have PN5 : Hid (PnOk w5.drew (.slice pa pn pc) ps) := LIFT.out _ fa5.low
  have LA : Hid (∀ W, Below w.heap.size w W → Calls Try.prog 12 #[.slice a l.length cap] W fun e w' => e = .returned (.int .i64 (N : Nat)) ∧ Below W.heap.size W w') := fun W hb => LAM.out W hb hN6
  clear ar5 fa5 CW p1 wf HWB HUB4 HB4 HP4 LIFT LAM AR0
  go_upto_region 10 with fail
  refine wp_region_held_drew (S := fun u => u.heap[w.heap.size]? = some (.cells #[.string nm, .slice a l.length cap] 24 (0, 0)) ∧ u.heap[ub]? = some (.cells #[.string nm, .slice pa pn pc] 27 (0, 0))) (by kernel_rfl) BX5.out (fun hS => ?_)
  refine wpAnyH_take (i := 0) (oi := { dst := some 27, op := Op.fieldAddr 27 (Operand.tmp 3) 1, type := 0, pos := _, after := _, guard := none }) (v := .pointer (some ⟨ub, 1, none⟩)) rfl (by kernel_rfl) (by kernel_rfl) (by kernel_rfl) (fun _ _ _ h => h) (Or.inl ⟨by rfl, fun u hu => by go_simp⟩) hS ?_
  simp only [Act.put, List.setIfInBounds_toArray, List.set_cons_zero, List.set_cons_succ]
  refine wpAnyH_take (i := 1) (oi := { dst := some 28, op := Op.load 25 (Operand.tmp 27), type := 25, pos := _, after := _, guard := none }) (v := .slice pa pn pc) rfl (by kernel_rfl) (by kernel_rfl) (by kernel_rfl) (fun _ _ _ h => h) (Or.inl ⟨by rfl, fun u hu => by (have z : u.cell? ⟨ub, 1, none⟩ = some (.slice pa pn pc) := (by simp [World.cell?, show u.heap[ub]? = _ from hu.2]); go_simp)⟩) hS ?_
  simp only [Act.put, List.setIfInBounds_toArray, List.set_cons_zero, List.set_cons_succ]
  refine wpAnyH_take (i := 2) (oi := { dst := some 29, op := Op.call { callee := Callee.builtin Builtin.len, args := #[Operand.tmp 28], argTypes := #[25] }, type := 3, pos := _, after := _, guard := none }) (v := .int .i64 pn) rfl (by kernel_rfl) (by kernel_rfl) (by kernel_rfl) (fun _ _ _ h => h) (Or.inl ⟨by rfl, fun u hu => by go_simp⟩) hS ?_
  simp only [Act.put, List.setIfInBounds_toArray, List.set_cons_zero, List.set_cons_succ]
  refine wpAnyH_take (i := 3) (oi := { dst := some 30, op := Op.fieldAddr 24 (Operand.tmp 1) 1, type := 0, pos := _, after := _, guard := none }) (v := .pointer (some ⟨w.heap.size, 1, none⟩)) rfl (by kernel_rfl) (by kernel_rfl) (by kernel_rfl) (fun _ _ _ h => h) (Or.inl ⟨by rfl, fun u hu => by go_simp⟩) hS ?_
  simp only [Act.put, List.setIfInBounds_toArray, List.set_cons_zero, List.set_cons_succ]
  refine wpAnyH_take (i := 4) (oi := { dst := some 31, op := Op.load 22 (Operand.tmp 30), type := 22, pos := _, after := _, guard := none }) (v := .slice a l.length cap) rfl (by kernel_rfl) (by kernel_rfl) (by kernel_rfl) (fun _ _ _ h => h) (Or.inl ⟨by rfl, fun u hu => by (have z : u.cell? ⟨w.heap.size, 1, none⟩ = some (.slice a l.length cap) := (by simp [World.cell?, show u.heap[w.heap.size]? = _ from hu.1]); go_simp)⟩) hS ?_
  simp only [Act.put, List.setIfInBounds_toArray, List.set_cons_zero, List.set_cons_succ]
  refine wpAnyH_ready (rs := [5]) (by kernel_rfl) (by simp) (AllReadyH.cons (o := { dst := some 32, op := Op.call { callee := Callee.value (Operand.func 12), args := #[Operand.tmp 31], argTypes := #[22] }, type := 3, pos := _, after := _, guard := none }) rfl (fun K hK => ?_) AllReadyH.nil)
  go_simp
  refine (LA.out _ HB5.out).mono ?_
  rintro e w6 ⟨rfl, hb6⟩
  have hS6 := And.intro ((hb6.block _ (Array.getElem?_eq_some_iff.1 hS.1).1).trans hS.1) ((hb6.block _ (Array.getElem?_eq_some_iff.1 hS.2).1).trans hS.2)
  have HB6 := hidd (HB5.out.trans (hb6.mono HB5.out.size))
  have AR6 := hidd (AR5.out.below hb6)
  have PN6 := hidd (PN5.out.lift hb6)
  clear hb6
  show K _ w6
  refine hK.out _ _ hS6 (fun hS => ?_)
  clear hK K
  refine wpAnyH_take (i := 6) (oi := { dst := some 33, op := Op.binOp BinOp.add 3 (Operand.tmp 32) (Operand.const (Value.int IntKind.i64 1)) 3, type := 3, pos := _, after := _, guard := none }) (v := .int .i64 ((N : Int) + 1)) rfl (by kernel_rfl) (by kernel_rfl) (by kernel_rfl) (fun _ _ _ h => h) (Or.inl ⟨by rfl, fun u hu => by (go_simp; try exact hwrap)⟩) hS ?_
  simp only [Act.put, List.setIfInBounds_toArray, List.set_cons_zero, List.set_cons_succ]
  refine wpAnyH_take (i := 7) (oi := { dst := some 34, op := Op.binOp BinOp.neq 3 (Operand.tmp 29) (Operand.tmp 33) 3, type := 4, pos := _, after := _, guard := none }) (v := .bool false) rfl (by kernel_rfl) (by kernel_rfl) (by kernel_rfl) (fun _ _ _ h => h) (Or.inl ⟨by rfl, fun u hu => by go_simp⟩) hS ?_
  simp only [Act.put, List.setIfInBounds_toArray, List.set_cons_zero, List.set_cons_succ]
  refine wpAnyH_take (i := 8) (oi := { dst := some 35, op := Op.move (Operand.tmp 34), type := 4, pos := _, after := _, guard := none }) (v := .bool false) rfl (by kernel_rfl) (by kernel_rfl) (by kernel_rfl) (fun _ _ _ h => h) (Or.inl ⟨by rfl, fun u hu => by go_simp⟩) hS ?_
  simp only [Act.put, List.setIfInBounds_toArray, List.set_cons_zero, List.set_cons_succ]
  refine wpAnyH_take (i := 9) (oi := { dst := some 36, op := Op.fieldAddr 27 (Operand.tmp 3) 0, type := 0, pos := _, after := _, guard := some (8, false) }) (v := .pointer (some ⟨ub, 0, none⟩)) rfl (by kernel_rfl) (by kernel_rfl) (by kernel_rfl) (fun _ _ _ h => h) (Or.inl ⟨by rfl, fun u hu => by go_simp⟩) hS ?_
  simp only [Act.put, List.setIfInBounds_toArray, List.set_cons_zero, List.set_cons_succ]
  refine wpAnyH_take (i := 10) (oi := { dst := some 37, op := Op.load 9 (Operand.tmp 36), type := 9, pos := _, after := _, guard := some (8, false) }) (v := .string nm) rfl (by kernel_rfl) (by kernel_rfl) (by kernel_rfl) (fun _ _ _ h => h) (Or.inl ⟨by rfl, fun u hu => by (have z : u.cell? ⟨ub, 0, none⟩ = some (.string nm) := (by simp [World.cell?, show u.heap[ub]? = _ from hu.2]); go_simp)⟩) hS ?_
  simp only [Act.put, List.setIfInBounds_toArray, List.set_cons_zero, List.set_cons_succ]
  refine wpAnyH_take (i := 11) (oi := { dst := some 38, op := Op.fieldAddr 24 (Operand.tmp 1) 0, type := 0, pos := _, after := _, guard := some (8, false) }) (v := .pointer (some ⟨w.heap.size, 0, none⟩)) rfl (by kernel_rfl) (by kernel_rfl) (by kernel_rfl) (fun _ _ _ h => h) (Or.inl ⟨by rfl, fun u hu => by go_simp⟩) hS ?_
  simp only [Act.put, List.setIfInBounds_toArray, List.set_cons_zero, List.set_cons_succ]
  refine wpAnyH_take (i := 12) (oi := { dst := some 39, op := Op.load 9 (Operand.tmp 38), type := 9, pos := _, after := _, guard := some (8, false) }) (v := .string nm) rfl (by kernel_rfl) (by kernel_rfl) (by kernel_rfl) (fun _ _ _ h => h) (Or.inl ⟨by rfl, fun u hu => by (have z : u.cell? ⟨w.heap.size, 0, none⟩ = some (.string nm) := (by simp [World.cell?, show u.heap[w.heap.size]? = _ from hu.1]); go_simp)⟩) hS ?_
  simp only [Act.put, List.setIfInBounds_toArray, List.set_cons_zero, List.set_cons_succ]
  refine wpAnyH_take (i := 13) (oi := { dst := some 40, op := Op.binOp BinOp.neq 9 (Operand.tmp 37) (Operand.tmp 39) 9, type := 4, pos := _, after := _, guard := some (8, false) }) (v := .bool false) rfl (by kernel_rfl) (by kernel_rfl) (by kernel_rfl) (fun _ _ _ h => h) (Or.inl ⟨by rfl, fun u hu => by go_simp⟩) hS ?_
  simp only [Act.put, List.setIfInBounds_toArray, List.set_cons_zero, List.set_cons_succ]
  refine wpAnyH_take (i := 14) (oi := { dst := some 41, op := Op.pick (Operand.tmp 35) (Operand.const (Value.bool true)) (Operand.tmp 40), type := 4, pos := _, after := _, guard := none }) (v := .bool false) rfl (by kernel_rfl) (by kernel_rfl) (by kernel_rfl) (fun _ _ _ h => h) (Or.inl ⟨by rfl, fun u hu => by go_simp⟩) hS ?_
  simp only [Act.put, List.setIfInBounds_toArray, List.set_cons_zero, List.set_cons_succ]
  refine wpAnyH_done (by kernel_rfl) ?_ _
  obtain ⟨sa, sc, rfl, hsc⟩ := AR6.out.slice
  have av0 : w6.cell? ⟨ab, 0, none⟩ = some (.slice sa (argL l).length sc) := (cellOf AR6.out.box).trans rfl
  have hS9 := hidd hS
  clear hS
  obtain ⟨an, han⟩ : ∃ n, n = (argL l).length := ⟨_, rfl⟩
  rw [← han] at av0 hsc
  have HAN : Hid (an = (argL l).length ∧ (argL l).length = N) := ⟨han, BD.out.2.2⟩
  have han9 : an ≤ 600000 := by have := BD.out; omega
  clear han
  go_wp2_with fail
  go_loopw [44] (fun ix wr => ∃ j : Nat, j ≤ an ∧ ix = .int .i64 j ∧ wr = w6) (fun ix _ => an - (intOf ix).toNat)
  case atStart => exact ⟨0, Nat.zero_le _, rfl, rfl⟩
  case round =>
    obtain ⟨j, hj, rfl, hw6⟩ := hrel
    subst wr
    by_cases hlt : j < an
    · have hlt2 : j < (argL l).length := by have := HAN.out; omega
      obtain ⟨x, hx⟩ : ∃ x, (argL l)[j]? = some x := ⟨(argL l)[j], List.getElem?_eq_getElem hlt2⟩
      obtain ⟨p, hp, hpa⟩ : ∃ p, ps[j + 1]? = some p ∧ p.args = x := by
        have h5 : (ps.map PE.pro).map Pro.args = 0 :: argL l := by rw [BD.out.1]; exact BD.out.2.1
        have h6 := congrArg (fun l => l[j + 1]?) h5
        simp only [List.getElem?_cons_succ, hx, List.getElem?_map] at h6
        cases hq : ps[j + 1]? with
        | none => rw [hq] at h6; simp at h6
        | some p => rw [hq] at h6; simp at h6; exact ⟨p, rfl, h6⟩
      obtain ⟨b, c, hsl, hbc, hbl, d0, _, _⟩ := PN6.out.at hp
      have hpl := (List.getElem?_eq_some_iff.1 hp).1
      have hsl2 : pa = some ⟨b, 0, none⟩ := by simp at hsl; exact hsl.1
      subst hsl2
      obtain ⟨gb, hgb⟩ : ∃ gb, sa = some ⟨gb, 0, none⟩ := by
        rcases AR6.out.row.2 with ⟨_, h0⟩ | ⟨g, cap', cur, e, _⟩
        · omega
        · simp at e; exact ⟨g, e.1⟩
      subst hgb
      have d2 := AR6.out.row.cellAt j (by omega)
      have d3 : (ints (argL l))[j]? = some (.int .i64 x) := by unfold ints; rw [List.getElem?_map, hx]; rfl
      rw [d3] at d2
      rw [hpa] at d0
      have u1 : w6.cell? ⟨ub, 1, none⟩ = some (.slice (some ⟨b, 0, none⟩) pn pc) := (cellOf hS9.out.2).trans rfl
      have hjp : j + 1 < pn := by have := HPN.out; omega
      have hpn5 : pn ≤ 1000000 := by have := HPN.out; have := BD.out; have := HAN.out; omega
      clear d3 hsl hp hx hpl hlt2
      go_wp2_with fail
      go_roundw
      case rel => exact ⟨j + 1, by omega, by go_num, trivial⟩
      case measure => simp [intOf]; omega
    · obtain rfl : j = an := by omega
      go_wp2_with fail
      go_ret
      exact ⟨rfl, HB6.out⟩
end Go.Proofs.Ytbbmdhkbndgdkaa
