/- Chapter 8's laws: CodeSize, walked. -/
import Derived.Test.YtbbmdhkbndgdkaaEf
import Derived.Laws.EntriesVeiled
namespace Go.Proofs.Ytbbmdhkbndgdkaa
set_option linter.unusedVariables false
set_option linter.unusedSimpArgs false
open Go.RowKit

theorem wrapI {x : Int} (h0 : 0 ≤ x) (h1 : x ≤ 1000000000000) : IntKind.i64.wrap x = x := by
  rw [IntKind.wrap_i64]; omega
theorem PnOk.lift {w w' : World} {pv : Value} {ps : List PE} (h : PnOk w pv ps) (hb : Below w.heap.size w w') : PnOk w' pv ps := by
  obtain ⟨a, c, e, hc, h1, h2⟩ := h
  refine ⟨a, c, e, hc, ?_, fun p hp => (h2 p hp).stay (fun b hk => hb.block b hk) (fun b hk => Nat.lt_of_lt_of_le hk hb.size)⟩
  rcases h1 with h1 | ⟨b, ha, hbl, h1⟩
  · exact Or.inl h1
  · exact Or.inr ⟨b, ha, Nat.lt_of_lt_of_le hbl hb.size, fun j u hu => (hb.cell (p := ⟨b, j, none⟩) hbl).trans (h1 j u hu)⟩
/-- How long the code of procedures in memory is. -/
def sumE : List PE → Nat
  | [] => 0
  | p :: r => p.es.length + sumE r
theorem sumE_pro : ∀ (l : List PE), sumE l = sumP (l.map PE.pro)
  | [] => rfl
  | p :: r => by rw [sumE, List.map_cons, sumP, sumE_pro r]; simp [PE.pro]
theorem sumE_append : ∀ (a b : List PE), sumE (a ++ b) = sumE a + sumE b
  | [], b => by simp [sumE]
  | p :: a, b => by rw [List.cons_append, sumE, sumE, sumE_append a b]; omega
theorem sumE_more {l : List PE} {j : Nat} {p : PE} (h : l[j]? = some p) : sumE (l.take (j + 1)) = sumE (l.take j) + p.es.length := by
  rw [take_more h, sumE_append]; simp [sumE]
theorem sumE_take (l : List PE) (j : Nat) : sumE (l.take j) ≤ sumE l := by
  have h := sumE_append (l.take j) (l.drop j)
  rw [List.take_append_drop] at h
  omega
theorem compile_sum {l : List Cor} (hn : nmL l) (h : (compile l).1 = 0) : sumP (compile l).2 ≤ 3 * nodL l + l.length + (compile l).2.length ∧ nodL l ≤ 600000 ∧ l.length ≤ 200 ∧ (compile l).2.length ≤ 500 := by
  unfold compile at h ⊢
  by_cases a : wrongB l = 0
  · rw [if_neg (by simpa using a)] at h ⊢
    have hr := wrongB_right a hn
    have hnd : nodL l ≤ 3000 * l.length := by
      unfold wrongB at a
      by_cases e : 200 < l.length
      · rw [if_pos e] at a; simp at a
      · rw [if_neg e] at a
        exact (ckB_right l a).2.2
    by_cases b : muchP (protosOf l) = true
    · rw [if_pos b] at h; simp at h
    · rw [if_neg b] at h ⊢
      refine ⟨sum_protos l hr.2.1, by have := hr.2.2.1; omega, hr.2.2.1, ?_⟩
      unfold muchP at b
      simp at b
      exact b.1
  · rw [if_pos (by simpa using a)] at h
    exact absurd h a

set_option maxRecDepth 100000 in
set_option maxHeartbeats 3200000 in
theorem CodeSize_walk (F : Nat) (nm : ByteArray) (l : List Cor) (a : Option Addr) (cap : Nat) (w : World) (hc : Cc w.heap.size w F a l) (hcap : l.length ≤ cap) (hn : nmL l) (hnm : nm.size ≤ 281474976710656) :
    Calls Try.prog 6 #[.agg #[.string nm, .slice a l.length cap]] w fun e w' => e = .returned (.bool true) ∧ Below w.heap.size w w' := by
  have hlen := hc.len
  have hb0 : Below w.heap.size w (w.alloc (.cells #[.string nm, .slice a l.length cap] 24)) := (Below.refl _ _).alloc (Nat.le_refl _) _
  have HB0 := hidd hb0
  have HP0 := hidd (World.alloc_heap_new w (.cells #[.string nm, .slice a l.length cap] 24))
  have CO : Hid (∀ W, Below w.heap.size w W → Calls Try.prog 7 #[.agg #[.string nm, .slice a l.length cap]] W (ToldC nm (compile l) W)) := fun W hb => Compile_any w.heap.size F nm l a cap W (hc.below hb) hb.size hcap hn hnm
  have CS : Hid ((compile l).1 = 0 → sumP (compile l).2 ≤ 3 * nodL l + l.length + (compile l).2.length ∧ nodL l ≤ 600000 ∧ l.length ≤ 200 ∧ (compile l).2.length ≤ 500) := fun h => compile_sum hn h
  have NDS : Hid (∀ nb W, Below w.heap.size w W → nodL l ≤ 600000 → W.heap[nb]? = some (.cells #[.func (.func 14) #[] #[.pointer (some ⟨nb, 0, none⟩)]] 41 (0, 0)) → Calls Try.prog 14 #[.slice a l.length cap, .pointer (some ⟨nb, 0, none⟩)] W fun e w' => e = .returned (.int .i64 (nodL l : Nat)) ∧ Below W.heap.size W w') := fun nb W hb h1 h2 => nodes_any w.heap.size nb F l a cap W (hc.below hb) hb.size hcap (by omega) h2
  clear hc hn hb0
  generalize compile l = RR at CO CS
  obtain ⟨r1, r2⟩ := RR
  simp only at CS
  go_enter Try.func6, Try.ntmps6
  go_wp2_with fail
  refine (alive_any _).mono ?_
  rintro e v0 ⟨rfl, hb⟩
  have HB1 := hidd (HB0.out.trans (hb.mono HB0.out.size))
  have HP1 := hidd ((hb.block _ (Array.getElem?_eq_some_iff.1 HP0.out).1).trans HP0.out)
  have c0 : v0.cell? ⟨w.heap.size, 0, none⟩ = some (.string nm) := (cellOf HP1.out).trans rfl
  have c1 : v0.cell? ⟨w.heap.size, 1, none⟩ = some (.slice a l.length cap) := (cellOf HP1.out).trans rfl
  clear hb HB0 HP0
  go_wp2_with fail
  refine (CO.out _ HB1.out).mono ?_
  rintro e v1 ⟨hb, nm', pv, ps, rfl, hq1, hq2, hps, hpn⟩
  clear hq1 hq2
  simp only at hps
  have HB2 := hidd (HB1.out.trans (hb.mono HB1.out.size))
  have HP2 := hidd ((hb.block _ (Array.getElem?_eq_some_iff.1 HP1.out).1).trans HP1.out)
  clear hb HB1 HP1 c0 c1 CO
  simp only
  obtain ⟨pa, pc, rfl, hpc, _⟩ := id hpn
  have HPN := hidd hpn
  have hpl : ps.length = r2.length := by rw [← hps, List.length_map]
  have HSE : Hid (sumE ps = sumP r2 ∧ ps.length = r2.length) := ⟨by rw [sumE_pro, hps], hpl⟩
  clear hpn hps hpl
  by_cases y0 : r1 = 0
  case neg =>
    have y0' : (r1 != 0) = true := by simpa using y0
    have GW := hidd (HB2.out.trans (((Below.refl _ _).alloc (Nat.le_refl _) (.cells #[.string nm', .slice pa ps.length pc] 27)).mono HB2.out.size))
    clear CS NDS
    go_wp2_with fail
    go_ret
    exact ⟨rfl, GW.out⟩
  subst y0
  obtain ⟨s1, s2, s3, s4⟩ := CS.out rfl
  obtain ⟨t1, t2⟩ := HSE.out
  obtain ⟨N, hN⟩ : ∃ N, N = nodL l := ⟨_, rfl⟩
  rw [← hN] at s1 s2 NDS
  have BND : Hid (sumE ps ≤ 3 * N + l.length + ps.length ∧ N ≤ 600000 ∧ l.length ≤ 200 ∧ ps.length ≤ 500) := ⟨by omega, s2, s3, by omega⟩
  have hl200 : l.length ≤ 200 := s3
  have hN6 : N ≤ 600000 := s2
  have hp5 : ps.length ≤ 500 := by omega
  clear CS HSE s1 s2 s3 s4 t1 t2 hN
  have ba : Below v1.heap.size v1 (v1.alloc (.cells #[.string nm', .slice pa ps.length pc] 27)) := (Below.refl _ _).alloc (Nat.le_refl _) _
  have HUB := hidd (World.alloc_heap_new v1 (.cells #[.string nm', .slice pa ps.length pc] 27))
  have HB3 := hidd (HB2.out.trans (ba.mono HB2.out.size))
  have HP3 := hidd ((ba.block _ (Array.getElem?_eq_some_iff.1 HP2.out).1).trans HP2.out)
  have HPN3 := hidd (HPN.out.lift ba)
  clear ba HB2 HP2 HPN
  go_upto_region 6 with fail
  generalize v1.alloc (.cells #[.string nm', .slice pa ps.length pc] 27) = W1 at HUB HB3 HP3 HPN3 ⊢
  generalize v1.heap.size = ub at HUB ⊢
  have ba : Below W1.heap.size W1 (W1.alloc (.cells #[.func (.func 14) #[] #[.pointer (some ⟨W1.heap.size, 0, none⟩)]] 41)) := (Below.refl _ _).alloc (Nat.le_refl _) _
  have HNB := hidd (World.alloc_heap_new W1 (.cells #[.func (.func 14) #[] #[.pointer (some ⟨W1.heap.size, 0, none⟩)]] 41))
  have HUB4 := hidd ((ba.block _ (Array.getElem?_eq_some_iff.1 HUB.out).1).trans HUB.out)
  have HB4 := hidd (HB3.out.trans (ba.mono HB3.out.size))
  have HP4 := hidd ((ba.block _ (Array.getElem?_eq_some_iff.1 HP3.out).1).trans HP3.out)
  have HPN4 := hidd (HPN3.out.lift ba)
  clear ba HUB HB3 HP3 HPN3
  go_upto_region 9 with fail
  generalize W1.alloc (.cells #[.func (.func 14) #[] #[.pointer (some ⟨W1.heap.size, 0, none⟩)]] 41) = W2 at HNB HUB4 HB4 HP4 HPN4 ⊢
  generalize W1.heap.size = nb at HNB ⊢
  have u1 : W2.cell? ⟨ub, 1, none⟩ = some (.slice pa ps.length pc) := (cellOf HUB4.out).trans rfl
  go_wp2_with fail
  go_loopw [6, 22] (fun v ix wr => ∃ j s : Nat, j ≤ ps.length ∧ ix = .int .i64 j ∧ v = .int .i64 s ∧ s ≤ 10000000 ∧ Hid (s = sumE (ps.take j) ∧ Below W2.heap.size W2 wr)) (fun _ ix _ => ps.length - (intOf ix).toNat)
  case atStart => exact ⟨0, 0, Nat.zero_le _, rfl, rfl, by omega, by simp [sumE], Below.refl _ _⟩
  case round =>
    clear u1
    obtain ⟨j, s, hj, rfl, rfl, hs9, HR⟩ := hrel
    by_cases hlt : j < ps.length
    · obtain ⟨p, hp⟩ : ∃ p, ps[j]? = some p := ⟨ps[j], List.getElem?_eq_getElem hlt⟩
      obtain ⟨b, c, hsl, hbc, hbl, d0, d1, _⟩ := HPN4.out.at hp
      simp at hsl
      obtain ⟨rfl, rfl⟩ := hsl
      have q0 := (HR.out.2.cell (p := ⟨b, j * 2, none⟩) hbl).trans d0
      have q1 := (HR.out.2.cell (p := ⟨b, j * 2 + 1, none⟩) hbl).trans d1
      have b1 := sumE_more hp
      have t1 := sumE_take ps (j + 1)
      have hbd := BND.out
      have hse := HR.out.1
      have hsum : s + p.es.length ≤ 10000000 := by omega
      have HE : Hid (s + p.es.length = sumE (ps.take (j + 1)) ∧ Below W2.heap.size W2 (wr.alloc (.cells #[.int .i64 p.args, .slice p.a p.es.length p.c] 44))) := ⟨by omega, HR.out.2.alloc HR.out.2.size _⟩
      clear d0 d1 b1 t1 hbd hse HR hp
      generalize p.es.length = S at q1 hsum HE
      go_wp2_with fail
      go_roundw
      case rel => exact ⟨j + 1, s + S, by omega, by go_num, by simp, hsum, HE.out⟩
      case measure => simp [intOf]; omega
    · obtain rfl : j = ps.length := by omega
      rw [List.take_length] at HR
      have hbd := BND.out.1
      rw [← HR.out.1] at hbd
      have hle : (s : Int) ≤ 3 * (N : Int) + l.length + ps.length := by omega
      have hb := HR.out.2
      have BX := hidd (And.intro ((hb.block _ (Array.getElem?_eq_some_iff.1 HP4.out).1).trans HP4.out) (And.intro ((hb.block _ (Array.getElem?_eq_some_iff.1 HUB4.out).1).trans HUB4.out) ((hb.block _ (Array.getElem?_eq_some_iff.1 HNB.out).1).trans HNB.out)))
      have HBL : Hid (Below w.heap.size w wr.drew) := (HB4.out.trans (hb.mono HB4.out.size)).trans (Below.drew (Below.refl _ _))
      have ND : Hid (∀ W, Below w.heap.size w W → W.heap[nb]? = some (.cells #[.func (.func 14) #[] #[.pointer (some ⟨nb, 0, none⟩)]] 41 (0, 0)) → Calls Try.prog 14 #[.slice a l.length cap, .pointer (some ⟨nb, 0, none⟩)] W fun e w' => e = .returned (.int .i64 (N : Nat)) ∧ Below W.heap.size W w') := fun W h1 h2 => NDS.out nb W h1 hN6 h2
      clear hbd hb HR NDS HPN4 BND HP4 HUB4 HNB HB4
      go_upto_region 14 with fail
      obtain ⟨sn, hsn⟩ : ∃ n, n = s := ⟨_, rfl⟩
      rw [← hsn] at hle hs9 ⊢
      clear hsn
      obtain ⟨pn, hpn⟩ : ∃ n, n = ps.length := ⟨_, rfl⟩
      rw [← hpn] at BX hle hp5 hj hlt ⊢
      clear hpn
      refine wp_region_held_drew (S := fun u => u.heap[w.heap.size]? = some (.cells #[.string nm, .slice a l.length cap] 24 (0, 0)) ∧ u.heap[ub]? = some (.cells #[.string nm', .slice pa pn pc] 27 (0, 0)) ∧ u.heap[nb]? = some (.cells #[.func (.func 14) #[] #[.pointer (some ⟨nb, 0, none⟩)]] 41 (0, 0))) (by kernel_rfl) BX.out (fun hS => ?_)
      refine wpAnyH_take (i := 0) (oi := { dst := some 32, op := Op.move (Operand.tmp 6), type := 3, pos := _, after := _, guard := none }) (v := .int .i64 sn) rfl (by kernel_rfl) (by kernel_rfl) (by kernel_rfl) (fun _ _ _ h => h) (Or.inl ⟨by rfl, fun u hu => by go_simp⟩) hS ?_
      simp only [Act.put, List.setIfInBounds_toArray, List.set_cons_zero, List.set_cons_succ]
      refine wpAnyH_take (i := 1) (oi := { dst := some 33, op := Op.load 41 (Operand.tmp 5), type := 41, pos := _, after := _, guard := none }) (v := .func (.func 14) #[] #[.pointer (some ⟨nb, 0, none⟩)]) rfl (by kernel_rfl) (by kernel_rfl) (by kernel_rfl) (fun _ _ _ h => h) (Or.inl ⟨by rfl, fun u hu => by (have z : u.cell? ⟨nb, 0, none⟩ = some (.func (.func 14) #[] #[.pointer (some ⟨nb, 0, none⟩)]) := (by simp [World.cell?, show u.heap[nb]? = _ from hu.2.2]); go_simp)⟩) hS ?_
      simp only [Act.put, List.setIfInBounds_toArray, List.set_cons_zero, List.set_cons_succ]
      refine wpAnyH_take (i := 2) (oi := { dst := some 34, op := Op.fieldAddr 24 (Operand.tmp 1) 1, type := 0, pos := _, after := _, guard := none }) (v := .pointer (some ⟨w.heap.size, 1, none⟩)) rfl (by kernel_rfl) (by kernel_rfl) (by kernel_rfl) (fun _ _ _ h => h) (Or.inl ⟨by rfl, fun u hu => by go_simp⟩) hS ?_
      simp only [Act.put, List.setIfInBounds_toArray, List.set_cons_zero, List.set_cons_succ]
      refine wpAnyH_take (i := 3) (oi := { dst := some 35, op := Op.load 22 (Operand.tmp 34), type := 22, pos := _, after := _, guard := none }) (v := .slice a l.length cap) rfl (by kernel_rfl) (by kernel_rfl) (by kernel_rfl) (fun _ _ _ h => h) (Or.inl ⟨by rfl, fun u hu => by (have z : u.cell? ⟨w.heap.size, 1, none⟩ = some (.slice a l.length cap) := (by simp [World.cell?, show u.heap[w.heap.size]? = _ from hu.1]); go_simp)⟩) hS ?_
      simp only [Act.put, List.setIfInBounds_toArray, List.set_cons_zero, List.set_cons_succ]
      refine wpAnyH_take (i := 6) (oi := { dst := some 38, op := Op.fieldAddr 24 (Operand.tmp 1) 1, type := 0, pos := _, after := _, guard := none }) (v := .pointer (some ⟨w.heap.size, 1, none⟩)) rfl (by kernel_rfl) (by kernel_rfl) (by kernel_rfl) (fun _ _ _ h => h) (Or.inl ⟨by rfl, fun u hu => by go_simp⟩) hS ?_
      simp only [Act.put, List.setIfInBounds_toArray, List.set_cons_zero, List.set_cons_succ]
      refine wpAnyH_take (i := 7) (oi := { dst := some 39, op := Op.load 22 (Operand.tmp 38), type := 22, pos := _, after := _, guard := none }) (v := .slice a l.length cap) rfl (by kernel_rfl) (by kernel_rfl) (by kernel_rfl) (fun _ _ _ h => h) (Or.inl ⟨by rfl, fun u hu => by (have z : u.cell? ⟨w.heap.size, 1, none⟩ = some (.slice a l.length cap) := (by simp [World.cell?, show u.heap[w.heap.size]? = _ from hu.1]); go_simp)⟩) hS ?_
      simp only [Act.put, List.setIfInBounds_toArray, List.set_cons_zero, List.set_cons_succ]
      refine wpAnyH_take (i := 8) (oi := { dst := some 40, op := Op.call { callee := Callee.builtin Builtin.len, args := #[Operand.tmp 39], argTypes := #[22] }, type := 3, pos := _, after := _, guard := none }) (v := .int .i64 l.length) rfl (by kernel_rfl) (by kernel_rfl) (by kernel_rfl) (fun _ _ _ h => h) (Or.inl ⟨by rfl, fun u hu => by go_simp⟩) hS ?_
      simp only [Act.put, List.setIfInBounds_toArray, List.set_cons_zero, List.set_cons_succ]
      refine wpAnyH_take (i := 10) (oi := { dst := some 42, op := Op.fieldAddr 27 (Operand.tmp 3) 1, type := 0, pos := _, after := _, guard := none }) (v := .pointer (some ⟨ub, 1, none⟩)) rfl (by kernel_rfl) (by kernel_rfl) (by kernel_rfl) (fun _ _ _ h => h) (Or.inl ⟨by rfl, fun u hu => by go_simp⟩) hS ?_
      simp only [Act.put, List.setIfInBounds_toArray, List.set_cons_zero, List.set_cons_succ]
      refine wpAnyH_take (i := 11) (oi := { dst := some 43, op := Op.load 25 (Operand.tmp 42), type := 25, pos := _, after := _, guard := none }) (v := .slice pa pn pc) rfl (by kernel_rfl) (by kernel_rfl) (by kernel_rfl) (fun _ _ _ h => h) (Or.inl ⟨by rfl, fun u hu => by (have z : u.cell? ⟨ub, 1, none⟩ = some (.slice pa pn pc) := (by simp [World.cell?, show u.heap[ub]? = _ from hu.2.1]); go_simp)⟩) hS ?_
      simp only [Act.put, List.setIfInBounds_toArray, List.set_cons_zero, List.set_cons_succ]
      refine wpAnyH_take (i := 12) (oi := { dst := some 44, op := Op.call { callee := Callee.builtin Builtin.len, args := #[Operand.tmp 43], argTypes := #[25] }, type := 3, pos := _, after := _, guard := none }) (v := .int .i64 pn) rfl (by kernel_rfl) (by kernel_rfl) (by kernel_rfl) (fun _ _ _ h => h) (Or.inl ⟨by rfl, fun u hu => by go_simp⟩) hS ?_
      simp only [Act.put, List.setIfInBounds_toArray, List.set_cons_zero, List.set_cons_succ]
      refine wpAnyH_ready (rs := [4]) (by kernel_rfl) (by simp) (AllReadyH.cons (o := { dst := some 36, op := Op.call { callee := Callee.value (Operand.tmp 33), args := #[Operand.tmp 35], argTypes := #[22] }, type := 3, pos := _, after := _, guard := none }) rfl (fun K hK => ?_) AllReadyH.nil)
      go_simp
      refine (ND.out _ HBL.out hS.2.2).mono ?_
      rintro e w2 ⟨rfl, hb2⟩
      have hS2 := And.intro ((hb2.block _ (Array.getElem?_eq_some_iff.1 hS.1).1).trans hS.1) (And.intro ((hb2.block _ (Array.getElem?_eq_some_iff.1 hS.2.1).1).trans hS.2.1) ((hb2.block _ (Array.getElem?_eq_some_iff.1 hS.2.2).1).trans hS.2.2))
      have GW := hidd (HBL.out.trans (hb2.mono HBL.out.size))
      clear hb2
      show K _ w2
      refine hK.out _ _ hS2 (fun hS => ?_)
      clear hK K
      refine wpAnyH_take (i := 5) (oi := { dst := some 37, op := Op.binOp BinOp.mul 3 (Operand.const (Value.int IntKind.i64 3)) (Operand.tmp 36) 3, type := 3, pos := _, after := _, guard := none }) (v := .int .i64 (3 * (N : Int))) rfl (by kernel_rfl) (by kernel_rfl) (by kernel_rfl) (fun _ _ _ h => h) (Or.inl ⟨by rfl, fun u hu => by (go_simp; exact wrapI (by omega) (by omega))⟩) hS ?_
      simp only [Act.put, List.setIfInBounds_toArray, List.set_cons_zero, List.set_cons_succ]
      refine wpAnyH_take (i := 9) (oi := { dst := some 41, op := Op.binOp BinOp.add 3 (Operand.tmp 37) (Operand.tmp 40) 3, type := 3, pos := _, after := _, guard := none }) (v := .int .i64 (3 * (N : Int) + l.length)) rfl (by kernel_rfl) (by kernel_rfl) (by kernel_rfl) (fun _ _ _ h => h) (Or.inl ⟨by rfl, fun u hu => by (go_simp; exact wrapI (by omega) (by omega))⟩) hS ?_
      simp only [Act.put, List.setIfInBounds_toArray, List.set_cons_zero, List.set_cons_succ]
      refine wpAnyH_take (i := 13) (oi := { dst := some 45, op := Op.binOp BinOp.add 3 (Operand.tmp 41) (Operand.tmp 44) 3, type := 3, pos := _, after := _, guard := none }) (v := .int .i64 (3 * (N : Int) + l.length + pn)) rfl (by kernel_rfl) (by kernel_rfl) (by kernel_rfl) (fun _ _ _ h => h) (Or.inl ⟨by rfl, fun u hu => by (go_simp; exact wrapI (by omega) (by omega))⟩) hS ?_
      simp only [Act.put, List.setIfInBounds_toArray, List.set_cons_zero, List.set_cons_succ]
      refine wpAnyH_take (i := 14) (oi := { dst := some 46, op := Op.binOp BinOp.leq 3 (Operand.tmp 32) (Operand.tmp 45) 3, type := 4, pos := _, after := _, guard := none }) (v := .bool true) rfl (by kernel_rfl) (by kernel_rfl) (by kernel_rfl) (fun _ _ _ h => h) (Or.inl ⟨by rfl, fun u hu => by go_simp⟩) hS ?_
      simp only [Act.put, List.setIfInBounds_toArray, List.set_cons_zero, List.set_cons_succ]
      refine wpAnyH_take (i := 15) (oi := { dst := some 2, op := Op.assign (Operand.tmp 46), type := 4, pos := _, after := _, guard := none }) (v := .bool true) rfl (by kernel_rfl) (by kernel_rfl) (by kernel_rfl) (fun _ _ _ h => h) (Or.inl ⟨by rfl, fun u hu => by go_simp⟩) hS ?_
      simp only [Act.put, List.setIfInBounds_toArray, List.set_cons_zero, List.set_cons_succ]
      refine wpAnyH_done (by kernel_rfl) ?_ _
      go_wp2_with fail
      go_ret
      exact ⟨rfl, GW.out⟩
end Go.Proofs.Ytbbmdhkbndgdkaa
