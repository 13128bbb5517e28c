/- Package text's Read: what is thrown is caught. -/
import Derived.Defers
import Derived.Recover
import Derived.Test.YtonafbennobgdaaGreatDoorK22
namespace Go.Proofs.YtonafbennobgdaaGreatDoor
set_option linter.unusedVariables false
set_option linter.unusedSimpArgs false
open Go.RowKit
set_option maxRecDepth 100000
set_option maxHeartbeats 6400000
theorem assert_thrown (v : Value) (w : World) : (Instr.typeAssert (.iface 104 v) 20 104 true).run Tryz.prog w = .ok (.tuple #[v, .bool true]) w := by
 simp [Instr.typeAssert, run_underlying Tryz.underlying104]
theorem caught_any (x : Int × Int) (w : World) :
 Calls Tryz.prog 47 #[.iface 104 (.agg #[.int .i64 x.1, .int .i64 x.2])] w fun e w' => e = .returned (.agg #[.int .i64 x.1, .int .i64 x.2]) ∧ Below w.heap.size w w' := by
 obtain ⟨x1, x2⟩ := x
 simp only
 have hta := assert_thrown (.agg #[.int .i64 x1, .int .i64 x2])
 go_enter Tryz.func47, Tryz.ntmps47
 go_wp2_with fail
 refine bodyPost_ret (v := .agg #[.int .i64 x1, .int .i64 x2]) (by simp [results, Tryz.results47, go_sem]) rfl ⟨rfl, ?_⟩
 exact ((Below.refl _ _).alloc (Nat.le_refl _) _).alloc (by simp) _
theorem catch_thrown (N : Nat) (x : Int × Int) (y1 y2 : Int) (w : World) (hN : N < w.heap.size) (q0 : w.cell? ⟨N, 0, none⟩ = some (.int .i64 y1)) (q1 : w.cell? ⟨N, 1, none⟩ = some (.int .i64 y2)) (z0 : w.frozen? ⟨N, 0, none⟩ = false) (z1 : w.frozen? ⟨N, 1, none⟩ = false) :
 CallsD Tryz.prog 46 #[.pointer (some ⟨N, 0, none⟩)] (.panicking [{ v := .iface 104 (.agg #[.int .i64 x.1, .int .i64 x.2]), recovered := false }]) w fun e u' w' =>
  e = .returned (.tuple #[]) ∧ u' = .panicking [{ v := .iface 104 (.agg #[.int .i64 x.1, .int .i64 x.2]), recovered := true }] ∧ ∃ w1, Below w.heap.size w w1 ∧ w' = (w1.setCell ⟨N, 0, none⟩ (.int .i64 x.1)).setCell ⟨N, 1, none⟩ (.int .i64 x.2) := by
 refine callsD_of_wpS Tryz.func46 rfl fun c₀ cs hu => ?_
 apply wpS_seq
 apply wpS_region
 simp [wpOpsS, go_sem, recoverD, hu, Tryz.ntmps46, Exit.thenS]
 refine wpS_of_wp ?_
 have harr : #[Value.pointer (some { block := N, off := 0 })] ++ ((Array.replicate 6 undef).setIfInBounds 1 (Value.iface 104 (Value.agg #[Value.int IntKind.i64 x.fst, Value.int IntKind.i64 x.snd]))).setIfInBounds 0 (Value.iface 104 (Value.agg #[Value.int IntKind.i64 x.fst, Value.int IntKind.i64 x.snd])) = #[Value.pointer (some { block := N, off := 0 }), Value.iface 104 (Value.agg #[Value.int IntKind.i64 x.fst, Value.int IntKind.i64 x.snd]), Value.iface 104 (Value.agg #[Value.int IntKind.i64 x.fst, Value.int IntKind.i64 x.snd]), undef, undef, undef, undef] := rfl
 rw [harr]
 have CA : Hid (∀ w, Calls Tryz.prog 47 #[.iface 104 (.agg #[.int .i64 x.1, .int .i64 x.2])] w fun e w' => e = .returned (.agg #[.int .i64 x.1, .int .i64 x.2]) ∧ Below w.heap.size w w') := fun w => caught_any x w
 clear harr
 go_wp2_with fail
 refine (CA.out _).mono ?_
 rintro e w1 ⟨rfl, hb⟩
 have p0 := (hb.cell (p := ⟨N, 0, none⟩) hN).trans q0
 have p1 := (hb.cell (p := ⟨N, 1, none⟩) hN).trans q1
 have f0 := (hb.frozen (p := ⟨N, 0, none⟩) hN).trans z0
 have f1 := (hb.frozen (p := ⟨N, 1, none⟩) hN).trans z1
 have HB : Hid (Below w.heap.size w w1) := hb
 clear hb q0 q1 z0 z1 CA
 go_wp2_with fail
 simp [bodyPostS, results, Tryz.results46]
 exact ⟨w1, HB.out, rfl⟩
theorem catch_idle (N : Nat) (w : World) :
 CallsD Tryz.prog 46 #[.pointer (some ⟨N, 0, none⟩)] .returning w fun e u' w' => e = .returned (.tuple #[]) ∧ u' = .returning ∧ w' = w := by
 refine callsD_of_wpS Tryz.func46 rfl fun c₀ cs hu => ?_
 apply wpS_seq
 apply wpS_region
 simp [wpOpsS, go_sem, recoverD, hu, Tryz.ntmps46, Exit.thenS]
 refine wpS_of_wp ?_
 have harr : #[Value.pointer (some { block := N, off := 0 })] ++ ((Array.replicate 6 undef).setIfInBounds 1 Value.nilIface).setIfInBounds 0 Value.nilIface = #[Value.pointer (some { block := N, off := 0 }), Value.nilIface, Value.nilIface, undef, undef, undef, undef] := rfl
 rw [harr]
 clear harr
 go_wp2_with fail
 cases c₀
 simp_all [bodyPostS, results, Tryz.results46]
def OutR (r : Sum (Int × Int) (List Dat)) (w : World) (e : Ending) (w' : World) : Prop :=
 Below w.heap.size w w' ∧ match r with
  | .inl x => e = .returned (.tuple #[.slice none 0 0, fv x])
  | .inr ds => ∃ a cap f, e = .returned (.tuple #[.slice a ds.length cap, fv (0, 0)]) ∧ Dw (NewT w w') w' f a cap ds
set_option maxRecDepth 100000 in
set_option maxHeartbeats 1600000 in
theorem Read_long (s : ByteArray) (w : World) (hs : 6000 < s.size) (hm : s.size ≤ maxLen) :
 Calls Tryz.prog 17 #[.string s] w fun e w' => e = .returned (.tuple #[.slice none 0 0, fv (4, 0)]) ∧ Below w.heap.size w w' := by
 unfold maxLen at hm
 go_enter_defers Tryz.func17, Tryz.ntmps17
 go_wp2_with fail
 simp [bodyPostD, Leaves, settle, results, Tryz.results17, go_sem]
 exact ⟨rfl, (Below.refl _ _).alloc (Nat.le_refl _) _⟩
def OutB (rb : Nat) (r : Rd (List Dat)) (w : World) (e : Ending) (w' : World) : Prop :=
 match r with
 | .inl x => e = .panicked (thrown x) ∧ Keep rb w w'
 | .inr (ds, _, _) => Keep rb w w' ∧ ∃ v es, e = .returned v ∧ es.map (·.1) = ds ∧ es.length ≤ 2000 ∧ Row w.heap.size v es w'
def OutS (r : Sum (Int × Int) (List Dat)) (w : World) (e : Ending) (w' : World) : Prop :=
 Below w.heap.size w w' ∧ match r with
  | .inl x => e = .returned (.tuple #[.slice none 0 0, fv x])
  | .inr ds => ∃ v es, e = .returned (.tuple #[v, fv (0, 0)]) ∧ es.map (·.1) = ds ∧ es.length ≤ 2000 ∧ ∃ B, w.heap.size ≤ B ∧ Row B v es w'
theorem all_row (rb : Nat) (s : ByteArray) (w : World) (h : Rdr rb s 0 0 w) (hs : s.size ≤ 6000) :
 Calls Tryz.prog 48 #[.pointer (some ⟨rb, 0, none⟩)] w (OutB rb (alls s.data.toList (s.data.toList.length + 1) 0 0) w) := by
 have HLEN : Hid (s.data.toList.length = s.size) := Array.length_toList
 have l1 := h.lt
 have HR : Hid (Rdr rb s 0 0 w) := h
 clear h
 obtain ⟨l, hl⟩ : ∃ l, l = s.data.toList := ⟨_, rfl⟩
 have HLL : Hid (l = s.data.toList) := hl
 have IH : Hid (∀ (i n : Nat) (w : World), Rdr rb s i n w → i ≤ s.size → n ≤ 2000 → Calls Tryz.prog 73 #[.pointer (some ⟨rb, 0, none⟩), .int .i64 1] w (Out rb s (one s.data.toList 40 i n) w)) := fun i n w h hi hn => datum_read rb s hs 40 (Nat.le_refl _) i n w h hi hn
 rw [← hl] at HLEN IH ⊢
 clear hl
 obtain ⟨i0, hinf, hz0, hz1, hz2⟩ := info_parts infoDatT
 go_enter Tryz.func48, Tryz.ntmps48
 go_wp2_with fail
 refine (skip_any rb s 0 0 _ HR.out (Nat.zero_le _) hs).mono ?_
 rintro e w1 ⟨rfl, hk1, hr1⟩
 have START : Hid (Als l s rb w (s.size - (0 + skipL (l.drop 0) false)) (.slice none 0 0) w1 [] 0 (l.length + 1) 0 (0 + skipL (l.drop 0) false)) := by
  have hle := skip_le l 0 (Nat.zero_le _)
  rw [HLEN.out] at hle
  exact ⟨rfl, hle, Nat.zero_le _, by omega, by simp, by omega, rfl, hk1, by rw [HLL.out]; exact hr1, Row.nil _ _, (pre_nil _).symm⟩
 clear hk1 hr1 HR
 go_wp2_with fail
 go_loopg [3] (s.size - (0 + skipL (l.drop 0) false)) (fun g v wr => ∃ es j k m p, Als l s rb w g v wr es j k m p)
 case atStart => exact ⟨_, _, _, _, _, START.out⟩
 clear START
 obtain ⟨es, j, k, m, p, hals⟩ := hrel
 have HL : Hid (Als l s rb w gk u3 wr es j k m p) := hals
 have hp := hals.ple
 have hgk := hals.ghost
 have hsz := hals.keep.size
 have en := ended_any rb s p m wr hals.rdr
 clear hals
 by_cases hlt : p < s.size
 rotate_left
 ·obtain rfl : p = s.size := by omega
  rw [show ((s.size : Int) == (s.size : Int)) = true from by simp] at en
  have EN : Hid (Calls Tryz.prog 72 #[.pointer (some ⟨rb, 0, none⟩)] wr fun e w' => e = .returned (.bool true) ∧ Below wr.heap.size wr w') := en
  clear en
  have HQ : Hid (∃ j' m', alls l (l.length + 1) 0 0 = .inr (es.map (·.1), j', m')) := by
   obtain ⟨j', m', he⟩ := alls_end (l := l) (k := k) (m := m) HL.out.pos (by rw [HLEN.out]; exact Nat.le_refl _)
   refine ⟨j', m', ?_⟩
   rw [HL.out.same, he]
   simp [pre]
  go_wp2_with fail
  refine EN.out.mono ?_
  rintro e w2 ⟨rfl, hb2⟩
  have H2 : Hid (Keep rb w w2 ∧ Row w.heap.size u3 es w2) := ⟨HL.out.keep.below hb2, HL.out.row.below hb2⟩
  clear hb2 EN
  go_wp2_with fail
  go_ret
  obtain ⟨j', m', he⟩ := HQ.out
  rw [he]
  exact ⟨H2.out.1, u3, es, rfl, rfl, Nat.le_trans HL.out.few HL.out.mle, H2.out.2⟩
 obtain ⟨k', hk'⟩ : ∃ k', k = k' + 1 := ⟨k - 1, by have := HL.out.fuel; have := HL.out.pos; have := HLEN.out; omega⟩
 have HK : Hid (k = k' + 1) := hk'
 clear hk'
 rw [show ((p : Int) == (s.size : Int)) = false from by simp; omega] at en
 have EN : Hid (Calls Tryz.prog 72 #[.pointer (some ⟨rb, 0, none⟩)] wr fun e w' => e = .returned (.bool false) ∧ Below wr.heap.size wr w') := en
 clear en
 go_wp2_with fail
 refine EN.out.mono ?_
 rintro e w2 ⟨rfl, hb2⟩
 have HR2 : Hid (Keep rb w w2 ∧ Rdr rb s p m w2 ∧ Row w.heap.size u3 es w2) := ⟨HL.out.keep.below hb2, HL.out.rdr.below hb2, HL.out.row.below hb2⟩
 have hs2 := hb2.size
 clear hb2 EN
 go_wp2_with fail
 refine (IH.out p m _ HR2.out.2.1 hp (HL.out.mle)).mono ?_
 intro e w3 hout
 cases ho : one l 40 p m with
 | inl x =>
  rw [ho] at hout
  obtain ⟨rfl, hk3⟩ := hout
  have HQ : Hid (alls l (l.length + 1) 0 0 = .inl x) := by
   show alls l (l.length + 1) 0 0 = .inl x
   rw [HL.out.same, HK.out, alls_bad HL.out.pos (by rw [HLEN.out]; exact hlt) ho]
   rfl
  have hkk : Keep rb w w3 := HR2.out.1.trans hk3
  clear hk3 ho
  go_wp2_with fail
  refine ⟨rfl, ?_⟩
  rw [HQ.out]
  exact ⟨rfl, hkk⟩
 | inr y =>
  obtain ⟨d, j', m'⟩ := y
  rw [ho] at hout
  obtain ⟨hk3, hr3, a', cap', f', rfl, hdw⟩ := hout
  have hw := one_went l 40 p m d j' m' (by rw [HLEN.out]; exact hp) HL.out.mle ho
  have HWT : Hid (Went l p m j' m' d) := hw
  have HQ : Hid (alls l (l.length + 1) 0 0 = pre (es.map (·.1) ++ [d]) (alls l k' j' m')) := by
   show alls l (l.length + 1) 0 0 = pre (es.map (·.1) ++ [d]) (alls l k' j' m')
   rw [HL.out.same, HK.out, alls_step HL.out.pos (by rw [HLEN.out]; exact hlt) ho, pre_pre]
  have H3 : Hid (Keep rb w w3 ∧ Rdr rb s j' m' w3 ∧ Row w.heap.size u3 es w3 ∧ Dw (NewT w2 w3) w3 f' a' cap' d.kids) := ⟨HR2.out.1.trans hk3, hr3, HR2.out.2.2.keep hk3 l1, hdw⟩
  have hs3 := hk3.size
  unfold dv
  clear hk3 hr3 hdw hw ho
  go_wp2_with (at_builtin; refine wpList_append_whereT rfl _ _ 24 rfl w.heap.size 26 i0 _ 6 72 Tryz.underlying24 hinf hz0 hz1 hz2 rfl (by decide) u3 es.length (flatT es) rfl (by exact H3.out.2.2.1.own.alloc _) ⟨w3.heap.size, 0, none⟩ 1 1 [.int .i64 d.kind, .int .i64 d.n, .string d.name, .int .i64 d.stamp, .int .i64 d.lib, .slice a' d.kids.length cap'] rfl rfl ?c1 ?c2 (by decide) ?c3 ?c4 ?c5 ?_)
  case c1 =>
   intro q u hq
   have hcell := World.cell?_alloc_mark w3 #[.int .i64 d.kind, .int .i64 d.n, .string d.name, .int .i64 d.stamp, .int .i64 d.lib, .slice a' d.kids.length cap'] 26 (0, 0) q
   have hadd : (⟨w3.heap.size, 0, none⟩ : Addr).add q = ⟨w3.heap.size, q, none⟩ := by unfold Addr.add; split <;> simp_all
   rw [hadd, hcell]
   simpa using hq
  case c2 =>
   intro u hu
   simp at hu
   rcases hu with rfl | rfl | rfl | rfl | rfl | rfl <;> rfl
  case c3 => have := HL.out.few; have := HL.out.mle; unfold maxLen; omega
  case c4 => have := HL.out.few; have := HL.out.mle; omega
  case c5 => simp; omega
  intro v' w4 hown4 hg4 hw4
  have HROW : Hid (Row w.heap.size v' (es ++ [(d, a', cap')]) w4) := by
   refine Row.push (wr := w2) _ H3.out.2.2.1 (by omega) (fun k hk => (HR2.out.2.2.own.lt k hk).2) H3.out.2.2.2 (by have := HWT.out.name; unfold maxLen; omega) hown4 hg4 hw4
  have hrow : ∀ k, u3.ownBlock = some k → w.heap.size ≤ k := fun k hk => (HR2.out.2.2.own.lt k hk).1
  have H4 : Hid (Keep rb w w4 ∧ Rdr rb s j' m' w4) := by
   refine ⟨(H3.out.1.alloc _).grown hg4 hrow, (H3.out.2.1.alloc _).grown hg4 ?_⟩
   intro e
   have := hrow rb e.symm
   omega
  clear hown4 hg4 hw4 hrow H3
  obtain ⟨ao, ln, cp, hv'⟩ : ∃ ao ln cp, v' = .slice ao ln cp := by
   rcases HROW.out.own.2 with ⟨hv, _⟩ | ⟨gg, cap, cur, hv, _⟩
   ·exact ⟨_, _, _, hv⟩
   exact ⟨_, _, _, hv⟩
  subst hv'
  go_wp2_with fail
  refine (skip_any rb s j' m' _ H4.out.2 (by have := HWT.out.upto; rw [HLEN.out] at this; exact this) hs).mono ?_
  rintro e w5 ⟨rfl, hk5, hr5⟩
  have H5 : Hid (Als l s rb w (s.size - (j' + skipL (l.drop j') false)) (.slice ao ln cp) w5 (es ++ [(d, a', cap')]) j' k' m' (j' + skipL (l.drop j') false)) := by
   have hup := HWT.out.upto
   have hle := skip_le l j' hup
   have hfu := HL.out.fuel
   have hkk := HK.out
   have hpo := HL.out.pos
   have hon := HWT.out.on
   have hmo := HWT.out.more
   have hfe := HL.out.few
   rw [HLEN.out] at hle
   refine ⟨rfl, hle, hup, HWT.out.much, by simp; omega, by omega, rfl, H4.out.1.trans hk5, by rw [HLL.out]; exact hr5, HROW.out.keep hk5 l1, ?_⟩
   rw [HQ.out]
   simp
  clear hk5 hr5
  go_wp2_with fail
  go_roundg (s.size - (j' + skipL (l.drop j') false))
  case measure => have := HWT.out.on; have := H5.out.ple; omega
  case rel => exact ⟨_, _, _, _, _, H5.out⟩
theorem Read_rowShort (s : ByteArray) (w : World) (hs : s.size ≤ 6000) :
 Calls Tryz.prog 17 #[.string s] w (OutS (match alls s.data.toList (s.data.toList.length + 1) 0 0 with | .inl e => .inl e | .inr (ds, _, _) => .inr ds) w) := by
 have hmf : ∀ (fn : Fn) (first cap : Array Value) (w : World), (Instr.makeFunc fn first cap).run Tryz.prog w = .ok (.func fn first cap) w := fun _ _ _ _ => rfl
 have RD : Hid (Rdr (w.heap.size + 1) s 0 0 ((w.alloc (.cells #[.int .i64 0, .int .i64 0] 40)).alloc (.cells #[.string s, .int .i64 0, .int .i64 0] 80))) := ⟨by simp, by simp [go_sem], by simp [go_sem], by simp [go_sem], by simp [go_sem], by simp [go_sem]⟩
 have AR : Hid (∀ (rb : Nat) (w : World) (h : Rdr rb s 0 0 w), Calls Tryz.prog 48 #[.pointer (some ⟨rb, 0, none⟩)] w (OutB rb (alls s.data.toList (s.data.toList.length + 1) 0 0) w)) := fun rb w h => all_row rb s w h hs
 generalize alls s.data.toList (s.data.toList.length + 1) 0 0 = R at AR ⊢
 go_enter_defers Tryz.func17, Tryz.ntmps17
 go_wp2_with fail
 have hA := AR.out _ _ RD.out
 refine hA.mono ?_
 have h0 : ((w.alloc (.cells #[.int .i64 0, .int .i64 0] 40)).alloc (.cells #[.string s, .int .i64 0, .int .i64 0] 80)).cell? ⟨w.heap.size, 0, none⟩ = some (.int .i64 0) := by simp [go_sem]
 have h1 : ((w.alloc (.cells #[.int .i64 0, .int .i64 0] 40)).alloc (.cells #[.string s, .int .i64 0, .int .i64 0] 80)).cell? ⟨w.heap.size, 1, none⟩ = some (.int .i64 0) := by simp [go_sem]
 have z0 : ((w.alloc (.cells #[.int .i64 0, .int .i64 0] 40)).alloc (.cells #[.string s, .int .i64 0, .int .i64 0] 80)).frozen? ⟨w.heap.size, 0, none⟩ = false := by simp [go_sem]
 have z1 : ((w.alloc (.cells #[.int .i64 0, .int .i64 0] 40)).alloc (.cells #[.string s, .int .i64 0, .int .i64 0] 80)).frozen? ⟨w.heap.size, 1, none⟩ = false := by simp [go_sem]
 have BB : Below w.heap.size w ((w.alloc (.cells #[.int .i64 0, .int .i64 0] 40)).alloc (.cells #[.string s, .int .i64 0, .int .i64 0] 80)) := ((Below.refl _ _).alloc (Nat.le_refl _) _).alloc (by simp) _
 have SZ : ((w.alloc (.cells #[.int .i64 0, .int .i64 0] 40)).alloc (.cells #[.string s, .int .i64 0, .int .i64 0] 80)).heap.size = w.heap.size + 2 := by simp
 generalize hW : ((w.alloc (.cells #[.int .i64 0, .int .i64 0] 40)).alloc (.cells #[.string s, .int .i64 0, .int .i64 0] 80)) = W at *
 clear hA RD AR
 have hlt : w.heap.size < W.heap.size := by omega
 have hne : w.heap.size ≠ w.heap.size + 1 := by omega
 rintro e w1 ho
 unfold OutB at ho
 have hmono := fun (h : Keep (w.heap.size + 1) W w1) => (show Below w.heap.size w w1 from BB.trans (h.toBelow (by omega) (by omega)))
 rcases R with x | ⟨ds, j, m⟩
 ·obtain ⟨rfl, hk⟩ := ho
  have hN : w.heap.size < w1.heap.size := by have := hk.size; omega
  have hb1 := hmono hk
  have g0 := (hk.cell (p := ⟨w.heap.size, 0, none⟩) hlt hne).trans h0
  have g1 := (hk.cell (p := ⟨w.heap.size, 1, none⟩) hlt hne).trans h1
  have y0 := (hk.frozen (p := ⟨w.heap.size, 0, none⟩) hlt hne).trans z0
  have y1 := (hk.frozen (p := ⟨w.heap.size, 1, none⟩) hlt hne).trans z1
  show bodyPostD _ _ _ _ _ _
  refine leaves_cons (f := 46) (args := #[.pointer (some ⟨w.heap.size, 0, none⟩)]) (by simp) (by simp [go_sem]) ?_
  refine (catch_thrown w.heap.size x 0 0 w1 hN g0 g1 y0 y1).mono ?_
  rintro e u' w'' ⟨rfl, rfl, w2, hb2, rfl⟩
  have k0 := (hb2.cell (p := ⟨w.heap.size, 0, none⟩) hN).trans g0
  have k1 := (hb2.cell (p := ⟨w.heap.size, 1, none⟩) hN).trans g1
  have HB : Below w.heap.size w ((w2.setCell ⟨w.heap.size, 0, none⟩ (.int .i64 x.1)).setCell ⟨w.heap.size, 1, none⟩ (.int .i64 x.2)) :=
   ((hb1.trans (hb2.mono (by omega))).setCell (Nat.le_refl _) _).setCell (Nat.le_refl _) _
  clear hmono hk hb1 h0 h1 z0 z1 BB SZ hW hb2 g0 g1 y0 y1
  simp [Leaves, settle, results, Tryz.results17, go_sem, k0, k1, OutS, fv, HB]
 obtain ⟨hk, v, es, rfl, hes, hlen, hrow⟩ := ho
 have hN : w.heap.size < w1.heap.size := by have := hk.size; omega
 have hb1 := hmono hk
 have g0 := (hk.cell (p := ⟨w.heap.size, 0, none⟩) hlt hne).trans h0
 have g1 := (hk.cell (p := ⟨w.heap.size, 1, none⟩) hlt hne).trans h1
 have y0 := (hk.frozen (p := ⟨w.heap.size, 0, none⟩) hlt hne).trans z0
 have y1 := (hk.frozen (p := ⟨w.heap.size, 1, none⟩) hlt hne).trans z1
 have HD : Hid (Row W.heap.size v es w1) := hrow
 have HB : Hid (Below w.heap.size w w1) := hb1
 have HS : Hid (W.heap.size = w.heap.size + 2) := SZ
 clear hmono hk hrow hb1 h0 h1 z0 z1 BB SZ
 clear hW
 go_wp2_with fail
 refine leaves_cons (f := 46) (args := #[.pointer (some ⟨w.heap.size, 0, none⟩)]) (by simp) (by simp [go_sem]) ?_
 refine (catch_idle w.heap.size _).mono ?_
 rintro e u' w'' ⟨rfl, rfl, rfl⟩
 have HB2 : Below w.heap.size w ((w1.setCell ⟨w.heap.size, 0, none⟩ (.int .i64 0)).setCell ⟨w.heap.size, 1, none⟩ (.int .i64 0)) :=
  (HB.out.setCell (Nat.le_refl _) _).setCell (Nat.le_refl _) _
 have HS2 := HS.out
 have HD2 : Row W.heap.size v es ((w1.setCell ⟨w.heap.size, 0, none⟩ (.int .i64 0)).setCell ⟨w.heap.size, 1, none⟩ (.int .i64 0)) :=
  HD.out.keep (rb := w.heap.size) (((Keep.refl w.heap.size w1).setCell ⟨w.heap.size, 0, none⟩ rfl (.int .i64 0)).setCell ⟨w.heap.size, 1, none⟩ rfl (.int .i64 0)) (by omega)
 clear HD HB HS
 simp [Leaves, settle, results, Tryz.results17, go_sem, g0, g1, OutS, fv, HB2]
 exact ⟨es, hes, hlen, W.heap.size, by omega, HD2⟩
theorem Read_row (s : ByteArray) (w : World) (hm : s.size ≤ maxLen) : Calls Tryz.prog 17 #[.string s] w (OutS (readL s.data.toList) w) := by
 have hl : s.data.toList.length = s.size := Array.length_toList
 unfold readL
 rw [hl]
 by_cases h : 6000 < s.size
 ·rw [if_pos h]
  refine (Read_long s w h hm).mono ?_
  rintro e w' ⟨rfl, hb⟩
  exact ⟨hb, rfl⟩
 rw [if_neg h]
 have hr := Read_rowShort s w (by omega)
 rw [hl] at hr
 exact hr
end Go.Proofs.YtonafbennobgdaaGreatDoor
