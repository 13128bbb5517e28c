/- WHAT Compile TELLS. The document's primitives. -/
import Derived.Test.YtfmanhkeclogfaaGreatDoorK22
import Derived.Test.YtfmanhkeclogfaaGreatDoorK45
namespace Go.Proofs.YtfmanhkeclogfaaGreatDoor
section
set_option linter.unusedVariables false
set_option linter.unusedSimpArgs false
open Go.RowKit

/-- Procedures lie in memory. -/
def PnOk (w : World) (pv : Value) (ps : List PE) : Prop :=
  ∃ a c, pv = .slice a ps.length c ∧ ps.length ≤ c ∧ (ps = [] ∨ ∃ b, a = some ⟨b, 0, none⟩ ∧ b < w.heap.size ∧ ∀ j u, (flatP ps)[j]? = some u → w.cell? ⟨b, j, none⟩ = some u) ∧ ∀ p ∈ ps, p.Ok (fun b => b < w.heap.size) w
theorem PnOk.nil (w : World) : PnOk w (.slice none 0 0) [] := ⟨none, 0, rfl, Nat.le_refl _, Or.inl rfl, by simp⟩
/-- What is told of a unit. -/
def ToldC (nm : ByteArray) (r : Int × List Pro) (w : World) (e : Ending) (w' : World) : Prop :=
  Below w.heap.size w w' ∧ ∃ nm' pv ps, e = .returned (.tuple #[.agg #[.string nm', pv], .int .i64 r.1]) ∧ (r.1 = 0 → nm' = nm) ∧ (r.1 ≠ 0 → nm' = ⟨#[]⟩) ∧ ps.map PE.pro = r.2 ∧ PnOk w' pv ps
theorem ToldC.no {nm : ByteArray} {y : Int} {w w' : World} (h : Below w.heap.size w w') (hy : y ≠ 0) : ToldC nm (y, []) w (.returned (.tuple #[.agg #[.string ⟨#[]⟩, .slice none 0 0], .int .i64 y])) w' :=
  ⟨h, ⟨#[]⟩, .slice none 0 0, [], rfl, fun e => absurd e hy, fun _ => rfl, rfl, PnOk.nil w'⟩
theorem PnOk.of {B M k : Nat} {X : Nat → Prop} {pv : Value} {ps : List PE} {w w' : World} (h : MP B X M pv ps w) (hk : Keep k w w') (hx : X k) (hv : pv = pv) (hr : pv.ownBlock ≠ some k) : PnOk w' pv ps := by
  obtain ⟨a, c, e, hc⟩ := h.pslice
  have hs := hk.size
  refine ⟨a, c, e, hc, ?_, fun p hp => (h.pi p hp).stay (fun b hb => hk.block b hb.1 (by have := hb.2.2; intro e; exact this (by rw [Option.some.inj e]; exact hx))) (fun b hb => by have := hb.1; omega)⟩
  rcases h.pr.2 with ⟨_, h0⟩ | ⟨g, cap, cur, rfl, hbg, hg, hrest⟩
  · exact Or.inl (List.length_eq_zero_iff.1 h0)
  · simp at e
    obtain ⟨rfl, rfl⟩ := e
    refine Or.inr ⟨g, rfl, by have := (h.pr.lt g rfl).2; omega, fun j u hu => ?_⟩
    have hj : j < ps.length * 2 := by
      have := (List.getElem?_eq_some_iff.1 hu).1
      rwa [flatP_len] at this
    have h1 := (h.pr.cellAt j hj).trans hu
    exact (World.cell?_of_block (a := ⟨g, j, none⟩) (hk.block g (h.pr.lt g rfl).2 hr)).trans h1
theorem set2 {w : World} {N : Nat} {x y : Value} {t : TypeId} (h : w.heap[N]? = some (.cells #[x, y] t (0, 0))) (u v : Value) : ((w.setCell ⟨N, 0, none⟩ u).setCell ⟨N, 1, none⟩ v).heap[N]? = some (.cells #[u, v] t (0, 0)) := by
  have h0 := heap_setCell_same w N 0 #[x, y] t u h
  exact heap_setCell_same _ N 1 #[u, y] t v h0
theorem keep2 (w : World) (N : Nat) (u v : Value) : Keep N w ((w.setCell ⟨N, 0, none⟩ u).setCell ⟨N, 1, none⟩ v) := Keep.trans ((Keep.refl N w).setCell ⟨N, 0, none⟩ rfl u) ((Keep.refl N (w.setCell ⟨N, 0, none⟩ u)).setCell ⟨N, 1, none⟩ rfl v)
theorem ret7 {ts : Array Value} {W : World} {N : Nat} {x y e : Value} (h : W.heap[N]? = some (.cells #[x, y] 24 (0, 0))) (h2 : ts[2]? = some (.pointer (some ⟨N, 0, none⟩))) (h3 : ts[3]? = some e) :
    (results Tryz.f17 ts).run Tryz.prog W = .ok (.tuple #[.agg #[x, y], e]) W := by
  have q0 : W.cell? ⟨N, 0, none⟩ = some x := (cellOf h).trans rfl
  have q1 : W.cell? ⟨N, 1, none⟩ = some y := (cellOf h).trans rfl
  simp [results, Tryz.results17, go_sem, h2, h3, q0, q1]

set_option maxRecDepth 100000 in
set_option maxHeartbeats 3200000 in
theorem Compile_any (B0 F : Nat) (nm : ByteArray) (l : List Cor) (a : Option Addr) (cap : Nat) (w : World) (hc : Cc B0 w F a l) (hB : B0 ≤ w.heap.size) (hcap : l.length ≤ cap) (hn : nmL l) (hnm : nm.size ≤ 281474976710656) :
    Calls Tryz.prog 17 #[.agg #[.string nm, .slice a l.length cap]] w (ToldC nm (compile l) w) := by
  have hb0 : Below w.heap.size w ((w.alloc (.cells #[.string nm, .slice a l.length cap] 39)).alloc (.cells #[.string ⟨#[]⟩, .slice none 0 0] 24)) := ((Below.refl _ _).alloc (Nat.le_refl _) _).alloc (by simp) _
  have hp0 : ((w.alloc (.cells #[.string nm, .slice a l.length cap] 39)).alloc (.cells #[.string ⟨#[]⟩, .slice none 0 0] 24)).heap[w.heap.size]? = some (.cells #[.string nm, .slice a l.length cap] 39 (0, 0)) := (Below.heap_alloc _ _ _ (by simp)).trans (World.alloc_heap_new w _)
  have hu0 : ((w.alloc (.cells #[.string nm, .slice a l.length cap] 39)).alloc (.cells #[.string ⟨#[]⟩, .slice none 0 0] 24)).heap[w.heap.size + 1]? = some (.cells #[.string ⟨#[]⟩, .slice none 0 0] 24 (0, 0)) := by
    have := World.alloc_heap_new (w.alloc (.cells #[.string nm, .slice a l.length cap] 39)) (.cells #[.string ⟨#[]⟩, .slice none 0 0] 24)
    simpa using this
  have hlen := hc.len
  have HC := hidd hc
  have HN := hidd hn
  have c0 : ((w.alloc (.cells #[.string nm, .slice a l.length cap] 39)).alloc (.cells #[.string ⟨#[]⟩, .slice none 0 0] 24)).cell? ⟨w.heap.size, 0, none⟩ = some (.string nm) := (cellOf hp0).trans rfl
  have c1 : ((w.alloc (.cells #[.string nm, .slice a l.length cap] 39)).alloc (.cells #[.string ⟨#[]⟩, .slice none 0 0] 24)).cell? ⟨w.heap.size, 1, none⟩ = some (.slice a l.length cap) := (cellOf hp0).trans rfl
  have hba : Below ((w.alloc (.cells #[.string nm, .slice a l.length cap] 39)).alloc (.cells #[.string ⟨#[]⟩, .slice none 0 0] 24)).heap.size ((w.alloc (.cells #[.string nm, .slice a l.length cap] 39)).alloc (.cells #[.string ⟨#[]⟩, .slice none 0 0] 24)) (((w.alloc (.cells #[.string nm, .slice a l.length cap] 39)).alloc (.cells #[.string ⟨#[]⟩, .slice none 0 0] 24)).alloc (.cells #[.string nm, .slice a l.length cap] 39)) := (Below.refl _ _).alloc (Nat.le_refl _) _
  have WR := hidd (Wrong1 B0 F (w.heap.size + 2) nm l a cap (((w.alloc (.cells #[.string nm, .slice a l.length cap] 39)).alloc (.cells #[.string ⟨#[]⟩, .slice none 0 0] 24)).alloc (.cells #[.string nm, .slice a l.length cap] 39)) (hc.below ((hb0.trans (hba.mono (by simp; omega))).mono hB)) (by simp; omega) hcap (by have := World.alloc_heap_new ((w.alloc (.cells #[.string nm, .slice a l.length cap] 39)).alloc (.cells #[.string ⟨#[]⟩, .slice none 0 0] 24)) (.cells #[.string nm, .slice a l.length cap] 39); simpa using this))
  have HB0 := hidd (hb0.trans (hba.mono (by simp; omega)))
  have HP0 := hidd ((hba.block _ (Array.getElem?_eq_some_iff.1 hp0).1).trans hp0)
  have HU0 := hidd ((hba.block _ (Array.getElem?_eq_some_iff.1 hu0).1).trans hu0)
  clear hc hn hb0 hp0 hu0 hba
  obtain ⟨RR, hRR⟩ : ∃ r, r = compile l := ⟨_, rfl⟩
  rw [← hRR]
  have HR := hidd hRR
  clear hRR
  unfold compile at HR
  unfold fv at WR
  simp only at WR
  have HRT : Hid (wrongB l = 0 → smCL l ∧ okL l ∧ l.length ≤ 200 ∧ sizL l + l.length ≤ 1800000 ∧ lamL l ≤ 600000 ∧ lonL l ≤ 1800000) := fun h => wrongB_right h HN.out
  generalize wrongB l = y at WR HR HRT
  go_enter Tryz.func17, Tryz.ntmps17
  go_wp2_with fail
  refine WR.out.mono ?_
  rintro e v1 ⟨rfl, hb1⟩
  have ba : Below v1.heap.size v1 (v1.alloc (.cells #[.int .i64 y, .int .i64 0] 42)) := (Below.refl _ _).alloc (Nat.le_refl _) _
  have HF := hidd (World.alloc_heap_new v1 (.cells #[.int .i64 y, .int .i64 0] 42))
  have HB1 : Hid (Below w.heap.size w (v1.alloc (.cells #[.int .i64 y, .int .i64 0] 42))) := (HB0.out.trans (hb1.mono HB0.out.size)).trans (ba.mono (Nat.le_trans HB0.out.size hb1.size))
  have HP := hidd ((ba.block _ (Nat.lt_of_lt_of_le (Array.getElem?_eq_some_iff.1 HP0.out).1 hb1.size)).trans ((hb1.block _ (Array.getElem?_eq_some_iff.1 HP0.out).1).trans HP0.out))
  have HU := hidd ((ba.block _ (Nat.lt_of_lt_of_le (Array.getElem?_eq_some_iff.1 HU0.out).1 hb1.size)).trans ((hb1.block _ (Array.getElem?_eq_some_iff.1 HU0.out).1).trans HU0.out))
  have hvs : w.heap.size + 3 ≤ v1.heap.size := by have := hb1.size; simp at this; omega
  clear hb1 ba WR HB0 HP0 HU0 c0 c1
  have f0 : (v1.alloc (.cells #[.int .i64 y, .int .i64 0] 42)).cell? ⟨v1.heap.size, 0, none⟩ = some (.int .i64 y) := (cellOf HF.out).trans rfl
  by_cases y0 : y = 0
  case neg =>
    have y0' : (y != 0) = true := by simpa using y0
    have hr := HR.out
    rw [if_pos y0] at hr
    subst hr
    clear HR HRT
    go_upto_region 3 with fail
    generalize v1.alloc (.cells #[.int .i64 y, .int .i64 0] 42) = W1 at HF HB1 HP HU f0 ⊢
    generalize v1.heap.size = fb at HF f0 hvs ⊢
    clear f0
    refine wp_region_held_drew (S := fun u => u.heap[fb]? = some (.cells #[.int .i64 y, .int .i64 0] 42 (0, 0))) (by kernel_rfl) HF.out (fun hS => ?_)
    refine wpAnyH_take (i := 0) (oi := { dst := some 12, op := Op.build 24 #[], type := 24, pos := _, after := _, guard := none }) (v := .agg #[.string ⟨#[]⟩, .slice none 0 0]) rfl (by kernel_rfl) (by kernel_rfl) (by kernel_rfl) (fun _ _ _ h => h) (Or.inl ⟨by rfl, fun u hu => by go_simp⟩) hS ?_
    simp only [Act.put, List.setIfInBounds_toArray, List.set_cons_zero, List.set_cons_succ]
    refine wpAnyH_take (i := 1) (oi := { dst := some 13, op := Op.fieldAddr 42 (Operand.tmp 4) 0, type := 0, pos := _, after := _, guard := none }) (v := .pointer (some ⟨fb, 0, none⟩)) rfl (by kernel_rfl) (by kernel_rfl) (by kernel_rfl) (fun _ _ _ h => h) (Or.inl ⟨by rfl, fun u hu => by go_simp⟩) hS ?_
    simp only [Act.put, List.setIfInBounds_toArray, List.set_cons_zero, List.set_cons_succ]
    refine wpAnyH_take (i := 2) (oi := { dst := some 14, op := Op.load 26 (Operand.tmp 13), type := 26, pos := _, after := _, guard := none }) (v := .int .i64 y) rfl (by kernel_rfl) (by kernel_rfl) (by kernel_rfl) (fun _ _ _ h => h) (Or.inl ⟨by rfl, fun u hu => by (have z : u.cell? ⟨fb, 0, none⟩ = some (.int .i64 y) := (by simp [World.cell?, show u.heap[fb]? = _ from hu]); go_simp)⟩) hS ?_
    simp only [Act.put, List.setIfInBounds_toArray, List.set_cons_zero, List.set_cons_succ]
    refine wpAnyH_ready (rs := [3]) (by kernel_rfl) (by simp) (AllReadyH.cons (o := { dst := none, op := Op.store 24 (Operand.tmp 2) (Operand.tmp 12), type := 0, pos := _, after := _, guard := none }) rfl (fun K hK => ?_) AllReadyH.nil)
    have n0 : W1.drew.cell? ⟨w.heap.size + 1, 0, none⟩ = some (.string ⟨#[]⟩) := (cellOf (w := W1.drew) HU.out).trans rfl
    have n1 : W1.drew.cell? ⟨w.heap.size + 1, 1, none⟩ = some (.slice none 0 0) := (cellOf (w := W1.drew) HU.out).trans rfl
    have nz : ∀ q, W1.drew.frozen? ⟨w.heap.size + 1, q, none⟩ = false := fun q => by simp [World.frozen?, show W1.drew.heap[w.heap.size + 1]? = _ from HU.out]
    have m0 : W1.cell? ⟨w.heap.size + 1, 0, none⟩ = some (.string ⟨#[]⟩) := (cellOf HU.out).trans rfl
    have m1 : W1.cell? ⟨w.heap.size + 1, 1, none⟩ = some (.slice none 0 0) := (cellOf HU.out).trans rfl
    have mz : ∀ q, W1.frozen? ⟨w.heap.size + 1, q, none⟩ = false := fun q => by simp [World.frozen?, HU.out]
    go_simp
    have END := hidd (set2 (w := W1.drew) HU.out (.string ⟨#[]⟩) (.slice none 0 0))
    have hke : Keep (w.heap.size + 1) W1.drew ((W1.drew.setCell ⟨w.heap.size + 1, 0, none⟩ (.string ⟨#[]⟩)).setCell ⟨w.heap.size + 1, 1, none⟩ (.slice none 0 0)) := keep2 _ _ _ _
    have BE : Hid (Below w.heap.size w ((W1.drew.setCell ⟨w.heap.size + 1, 0, none⟩ (.string ⟨#[]⟩)).setCell ⟨w.heap.size + 1, 1, none⟩ (.slice none 0 0))) := (HB1.out.trans (Below.drew (Below.refl _ _))).trans (hke.toBelow (by omega) (Nat.le_trans HB1.out.size (Nat.le_refl _)))
    have hS3 : ((W1.drew.setCell ⟨w.heap.size + 1, 0, none⟩ (.string ⟨#[]⟩)).setCell ⟨w.heap.size + 1, 1, none⟩ (.slice none 0 0)).heap[fb]? = some (.cells #[.int .i64 y, .int .i64 0] 42 (0, 0)) := (hke.block _ (Array.getElem?_eq_some_iff.1 hS).1 (by simp; omega)).trans hS
    change K _ ((W1.drew.setCell ⟨w.heap.size + 1, 0, none⟩ (.string ⟨#[]⟩)).setCell ⟨w.heap.size + 1, 1, none⟩ (.slice none 0 0))
    generalize (W1.drew.setCell ⟨w.heap.size + 1, 0, none⟩ (.string ⟨#[]⟩)).setCell ⟨w.heap.size + 1, 1, none⟩ (.slice none 0 0) = W3 at END BE hS3 hke ⊢
    clear n0 n1 nz hke m0 m1 mz
    refine hK.out _ _ hS3 (fun hS => ?_)
    clear hK K
    refine wpAnyH_take (i := 4) (oi := { dst := some 3, op := Op.assign (Operand.tmp 14), type := 26, pos := _, after := _, guard := none }) (v := .int .i64 y) rfl (by kernel_rfl) (by kernel_rfl) (by kernel_rfl) (fun _ _ _ h => h) (Or.inl ⟨by rfl, fun u hu => by go_simp⟩) hS ?_
    simp only [Act.put, List.setIfInBounds_toArray, List.set_cons_zero, List.set_cons_succ]
    refine wpAnyH_done (by kernel_rfl) ?_ _
    go_wp2_with fail
    exact bodyPost_ret (ret7 END.out rfl rfl) rfl (ToldC.no BE.out y0)
  subst y0
  rw [if_neg (by simp)] at HR
  obtain ⟨r1, r2, r3, r4, r5, r6⟩ := HRT.out rfl
  have MU := hidd (much_any B0 F l a cap (v1.alloc (.cells #[.int .i64 0, .int .i64 0] 42)) (HC.out.below (HB1.out.mono hB)) (Nat.le_trans hB HB1.out.size) hcap r2 (by omega) (by omega) (by omega) r3)
  rw [much_eq l r2] at MU
  have HRR : Hid (smCL l ∧ okL l ∧ sizL l + l.length ≤ 1800000 ∧ lamL l ≤ 600000 ∧ lonL l ≤ 1800000) := ⟨r1, r2, r4, r5, r6⟩
  have p1 : (v1.alloc (.cells #[.int .i64 0, .int .i64 0] 42)).cell? ⟨w.heap.size, 1, none⟩ = some (.slice a l.length cap) := (cellOf HP.out).trans rfl
  clear r1 r2 r3 r4 r5 r6 HRT HN
  go_upto_region 4 with fail
  generalize v1.alloc (.cells #[.int .i64 0, .int .i64 0] 42) = W1 at HF HB1 HP HU f0 MU p1 ⊢
  generalize v1.heap.size = fb at HF f0 hvs ⊢
  go_wp2_with fail
  refine MU.out.mono ?_
  rintro e W2 ⟨rfl, hb2⟩
  have HB2 := hidd (HB1.out.trans (hb2.mono HB1.out.size))
  have HP2 := hidd ((hb2.block _ (Array.getElem?_eq_some_iff.1 HP.out).1).trans HP.out)
  have HU2 := hidd ((hb2.block _ (Array.getElem?_eq_some_iff.1 HU.out).1).trans HU.out)
  clear hb2 MU HB1 HP HU HF f0 p1
  cases hmu : muchP (protosOf l) with
  | true =>
    rw [if_pos hmu] at HR
    have hr := HR.out
    subst hr
    have n0 : W2.cell? ⟨w.heap.size + 1, 0, none⟩ = some (.string ⟨#[]⟩) := (cellOf HU2.out).trans rfl
    have n1 : W2.cell? ⟨w.heap.size + 1, 1, none⟩ = some (.slice none 0 0) := (cellOf HU2.out).trans rfl
    have nz : ∀ q, W2.frozen? ⟨w.heap.size + 1, q, none⟩ = false := fun q => by simp [World.frozen?, HU2.out]
    have END := hidd (set2 HU2.out (.string ⟨#[]⟩) (.slice none 0 0))
    have BE : Hid (Below w.heap.size w ((W2.setCell ⟨w.heap.size + 1, 0, none⟩ (.string ⟨#[]⟩)).setCell ⟨w.heap.size + 1, 1, none⟩ (.slice none 0 0))) := (HB2.out.setCell (p := ⟨w.heap.size + 1, 0, none⟩) (by show w.heap.size ≤ w.heap.size + 1; omega) _).setCell (p := ⟨w.heap.size + 1, 1, none⟩) (by show w.heap.size ≤ w.heap.size + 1; omega) _
    go_wp2_with fail
    exact bodyPost_ret (ret7 END.out rfl rfl) rfl (ToldC.no BE.out (by decide))
  | false =>
  rw [if_neg (by rw [hmu]; simp)] at HR
  clear hmu
  have ba : Below W2.heap.size W2 (W2.alloc (.cells #[.slice none 0 0] 86)) := (Below.refl _ _).alloc (Nat.le_refl _) _
  have hw2 : w.heap.size + 1 < W2.heap.size := (Array.getElem?_eq_some_iff.1 HU2.out).1
  have MP0 : MP W2.heap.size (fun b => b = w.heap.size + 1) W2.heap.size (.slice none 0 0) [] (W2.alloc (.cells #[.slice none 0 0] 86)) := ⟨World.alloc_heap_new W2 _, Nat.le_refl _, World.ownsRow_nil _ _ _ _, by simp [Value.ownBlock], fun b hb => by subst hb; simp; omega, by simp⟩
  have BO := hidd (body_any B0 W2.heap.size F (Nat.le_trans hB HB2.out.size) _ W2.heap.size l a cap (W2.alloc (.cells #[.slice none 0 0] 86)) (HC.out.below ((HB2.out.trans (ba.mono HB2.out.size)).mono hB)) hcap HRR.out.2.1 HRR.out.1 (by have := HRR.out; omega) (by have := HRR.out; omega) (by have := HRR.out; omega) MP0)
  have HB3 := hidd (HB2.out.trans (ba.mono HB2.out.size))
  have HP3 := hidd ((ba.block _ (Array.getElem?_eq_some_iff.1 HP2.out).1).trans HP2.out)
  have HU3 := hidd ((ba.block _ (Array.getElem?_eq_some_iff.1 HU2.out).1).trans HU2.out)
  have p1 : (W2.alloc (.cells #[.slice none 0 0] 86)).cell? ⟨w.heap.size, 1, none⟩ = some (.slice a l.length cap) := (cellOf HP3.out).trans rfl
  clear ba MP0 HB2 HP2 HU2 HRR HC
  go_upto_region 7 with fail
  generalize W2.alloc (.cells #[.slice none 0 0] 86) = W3 at BO HB3 HP3 HU3 p1 ⊢
  generalize W2.heap.size = mb at BO hw2 ⊢
  go_wp2_with fail
  refine BO.out.mono ?_
  rintro e W5 ⟨rfl, pv5, psE, hps, mp5, fp5⟩
  have HPR : Hid (psE.map PE.pro = RR.2) := by show _ = _; rw [hps, HR.out]
  have hr0 : RR.1 = 0 := by rw [HR.out]
  have HU5 := hidd ((fp5.keep _ (Array.getElem?_eq_some_iff.1 HU3.out).1 ⟨by omega, by simp [Value.ownBlock]⟩).trans HU3.out)
  have HP5 := hidd ((fp5.keep _ (Array.getElem?_eq_some_iff.1 HP3.out).1 ⟨by omega, by simp [Value.ownBlock]⟩).trans HP3.out)
  have HB5 : Hid (Below w.heap.size w W5) := HB3.out.trans (fp5.low.mono (by omega))
  obtain ⟨pa, pc, hpv, _⟩ := mp5.pslice
  have MP5 := hidd mp5
  have hub : pv5.ownBlock ≠ some (w.heap.size + 1) := by
    intro e
    have := (mp5.pr.lt _ e).1
    omega
  obtain ⟨pn, hpn⟩ : ∃ n, n = psE.length := ⟨_, rfl⟩
  rw [← hpn] at hpv
  subst hpv
  obtain ⟨R1, R2⟩ := RR
  simp only at hr0 HPR
  subst hr0
  clear hpn hps mp5 fp5 BO HB3 HP3 HU3 p1 HR
  go_upto_region 8 with fail
  refine wp_region_held_drew (S := fun u => u.heap[w.heap.size]? = some (.cells #[.string nm, .slice a l.length cap] 39 (0, 0)) ∧ u.heap[mb]? = some (.cells #[.slice pa pn pc] 86 (0, 0))) (by kernel_rfl) ⟨HP5.out, MP5.out.mb⟩ (fun hS => ?_)
  refine wpAnyH_take (i := 0) (oi := { dst := some 22, op := Op.fieldAddr 39 (Operand.tmp 1) 0, type := 0, pos := _, after := _, guard := none }) (v := .pointer (some ⟨w.heap.size, 0, none⟩)) rfl (by kernel_rfl) (by kernel_rfl) (by kernel_rfl) (fun _ _ _ h => h) (Or.inl ⟨by rfl, fun u hu => by go_simp⟩) hS ?_
  simp only [Act.put, List.setIfInBounds_toArray, List.set_cons_zero, List.set_cons_succ]
  refine wpAnyH_take (i := 1) (oi := { dst := some 23, op := Op.load 9 (Operand.tmp 22), type := 9, pos := _, after := _, guard := none }) (v := .string nm) rfl (by kernel_rfl) (by kernel_rfl) (by kernel_rfl) (fun _ _ _ h => h) (Or.inl ⟨by rfl, fun u hu => by (have z : u.cell? ⟨w.heap.size, 0, none⟩ = some (.string nm) := (by simp [World.cell?, show u.heap[w.heap.size]? = _ from hu.1]); go_simp)⟩) hS ?_
  simp only [Act.put, List.setIfInBounds_toArray, List.set_cons_zero, List.set_cons_succ]
  refine wpAnyH_take (i := 3) (oi := { dst := some 25, op := Op.fieldAddr 86 (Operand.tmp 5) 0, type := 0, pos := _, after := _, guard := none }) (v := .pointer (some ⟨mb, 0, none⟩)) rfl (by kernel_rfl) (by kernel_rfl) (by kernel_rfl) (fun _ _ _ h => h) (Or.inl ⟨by rfl, fun u hu => by go_simp⟩) hS ?_
  simp only [Act.put, List.setIfInBounds_toArray, List.set_cons_zero, List.set_cons_succ]
  refine wpAnyH_take (i := 4) (oi := { dst := some 26, op := Op.load 22 (Operand.tmp 25), type := 22, pos := _, after := _, guard := none }) (v := .slice pa pn pc) rfl (by kernel_rfl) (by kernel_rfl) (by kernel_rfl) (fun _ _ _ h => h) (Or.inl ⟨by rfl, fun u hu => by (have z : u.cell? ⟨mb, 0, none⟩ = some (.slice pa pn pc) := (by simp [World.cell?, show u.heap[mb]? = _ from hu.2]); go_simp)⟩) hS ?_
  simp only [Act.put, List.setIfInBounds_toArray, List.set_cons_zero, List.set_cons_succ]
  refine wpAnyH_ready (rs := [2]) (by kernel_rfl) (by simp) (AllReadyH.cons (o := { dst := some 24, op := Op.call { callee := Callee.value (Operand.func 43), args := #[Operand.tmp 23], argTypes := #[9] }, type := 9, pos := _, after := _, guard := none }) rfl (fun K hK => ?_) AllReadyH.nil)
  go_simp
  refine (Clone_any nm _ hnm).mono ?_
  rintro e W6 ⟨rfl, hb6⟩
  have hS6 := And.intro ((hb6.block _ (Array.getElem?_eq_some_iff.1 hS.1).1).trans hS.1) ((hb6.block _ (Array.getElem?_eq_some_iff.1 hS.2).1).trans hS.2)
  have HU6 := hidd ((hb6.block _ (Array.getElem?_eq_some_iff.1 (show W5.drew.heap[w.heap.size + 1]? = _ from HU5.out)).1).trans HU5.out)
  have HB6 := hidd ((HB5.out.trans (Below.drew (Below.refl _ _))).trans (hb6.mono (Nat.le_trans HB5.out.size (Nat.le_refl _))))
  have MP6 := hidd ((MP5.out.below (Below.drew (Below.refl _ _))).below hb6)
  clear hb6
  show K _ W6
  refine hK.out _ _ hS6 (fun hS => ?_)
  clear hK K
  refine wpAnyH_take (i := 5) (oi := { dst := some 27, op := Op.build 24 #[(0, Operand.tmp 24), (1, Operand.tmp 26)], type := 24, pos := _, after := _, guard := none }) (v := .agg #[.string nm, .slice pa pn pc]) rfl (by kernel_rfl) (by kernel_rfl) (by kernel_rfl) (fun _ _ _ h => h) (Or.inl ⟨by rfl, fun u hu => by go_simp⟩) hS ?_
  simp only [Act.put, List.setIfInBounds_toArray, List.set_cons_zero, List.set_cons_succ]
  refine wpAnyH_ready (rs := [6]) (by kernel_rfl) (by simp) (AllReadyH.cons (o := { dst := none, op := Op.store 24 (Operand.tmp 2) (Operand.tmp 27), type := 0, pos := _, after := _, guard := none }) rfl (fun K hK => ?_) AllReadyH.nil)
  have n0 : W6.cell? ⟨w.heap.size + 1, 0, none⟩ = some (.string ⟨#[]⟩) := (cellOf HU6.out).trans rfl
  have n1 : W6.cell? ⟨w.heap.size + 1, 1, none⟩ = some (.slice none 0 0) := (cellOf HU6.out).trans rfl
  have nz : ∀ q, W6.frozen? ⟨w.heap.size + 1, q, none⟩ = false := fun q => by simp [World.frozen?, HU6.out]
  go_simp
  have END := hidd (set2 HU6.out (.string nm) (.slice pa pn pc))
  have hke : Keep (w.heap.size + 1) W6 ((W6.setCell ⟨w.heap.size + 1, 0, none⟩ (.string nm)).setCell ⟨w.heap.size + 1, 1, none⟩ (.slice pa pn pc)) := keep2 _ _ _ _
  have BE : Hid (Below w.heap.size w ((W6.setCell ⟨w.heap.size + 1, 0, none⟩ (.string nm)).setCell ⟨w.heap.size + 1, 1, none⟩ (.slice pa pn pc))) := HB6.out.trans (hke.toBelow (by omega) HB6.out.size)
  have hS7 := And.intro ((hke.block _ (Array.getElem?_eq_some_iff.1 hS.1).1 (by simp)).trans hS.1) ((hke.block _ (Array.getElem?_eq_some_iff.1 hS.2).1 (by simp; omega)).trans hS.2)
  have TD : Hid (PnOk ((W6.setCell ⟨w.heap.size + 1, 0, none⟩ (.string nm)).setCell ⟨w.heap.size + 1, 1, none⟩ (.slice pa pn pc)) (.slice pa pn pc) psE) := PnOk.of MP6.out hke (by simp) rfl hub
  change K _ ((W6.setCell ⟨w.heap.size + 1, 0, none⟩ (.string nm)).setCell ⟨w.heap.size + 1, 1, none⟩ (.slice pa pn pc))
  generalize (W6.setCell ⟨w.heap.size + 1, 0, none⟩ (.string nm)).setCell ⟨w.heap.size + 1, 1, none⟩ (.slice pa pn pc) = W7 at END BE hS7 hke TD ⊢
  clear n0 n1 nz hke
  refine hK.out _ _ hS7 (fun hS => ?_)
  clear hK K
  refine wpAnyH_take (i := 7) (oi := { dst := some 3, op := Op.assign (Operand.const (Value.int IntKind.i64 0)), type := 26, pos := _, after := _, guard := none }) (v := .int .i64 0) rfl (by kernel_rfl) (by kernel_rfl) (by kernel_rfl) (fun _ _ _ h => h) (Or.inl ⟨by rfl, fun u hu => by go_simp⟩) hS ?_
  simp only [Act.put, List.setIfInBounds_toArray, List.set_cons_zero, List.set_cons_succ]
  refine wpAnyH_done (by kernel_rfl) ?_ _
  go_wp2_with fail
  exact bodyPost_ret (ret7 END.out rfl rfl) rfl ⟨BE.out, nm, .slice pa pn pc, psE, rfl, fun _ => rfl, fun h => absurd rfl h, HPR.out, TD.out⟩
end
section
set_option linter.unusedVariables false
set_option linter.unusedSimpArgs false
open Go.RowKit

set_option maxRecDepth 100000 in
set_option maxHeartbeats 1600000 in
theorem in_any (l : List ByteArray) (b : Nat) (c : Nat) (o : ByteArray) (w : World) (hl : ∀ j s, l[j]? = some s → w.cell? ⟨b, j, none⟩ = some (.string s)) (hn : l.length ≤ 1000) (hc : l.length ≤ c) (r : Bool) (hr : r = true ↔ o ∈ l) :
    Calls Tryz.prog 78 #[.slice (some ⟨b, 0, none⟩) l.length c, .string o] w fun e w' => e = .returned (.bool r) ∧ w' = w := by
  have HL := hidd hl
  have HR := hidd hr
  clear hl hr
  go_enter Tryz.func78, Tryz.ntmps78
  go_wp2_with fail
  go_loopw [9] (fun ix wr => ∃ j : Nat, j ≤ l.length ∧ ix = .int .i64 j ∧ wr = w ∧ Hid (o ∈ l ↔ o ∈ l.drop j)) (fun ix _ => l.length - (intOf ix).toNat)
  case atStart => exact ⟨0, Nat.zero_le _, rfl, rfl, (show _ ↔ _ by simp)⟩
  case round =>
    obtain ⟨j, hj, rfl, hwr, HE⟩ := hrel
    subst wr
    by_cases hlt : j < l.length
    · obtain ⟨s, hs⟩ : ∃ s, l[j]? = some s := ⟨l[j], List.getElem?_eq_getElem hlt⟩
      have k0 := HL.out j s hs
      have hd : l.drop j = s :: l.drop (j + 1) := by
        obtain ⟨h1, h2⟩ := List.getElem?_eq_some_iff.1 hs
        rw [← h2]; exact List.drop_eq_getElem_cons h1
      have HE2 : Hid (o ∈ l ↔ o = s ∨ o ∈ l.drop (j + 1)) := by
        show _ ↔ _
        rw [HE.out, hd, List.mem_cons]
      clear hs hd HE
      by_cases he : s = o
      · subst he
        have hb : (s.toList == s.toList) = true := by simp
        have HM : Hid (s ∈ l) := HE2.out.2 (Or.inl rfl)
        clear HE2
        go_wp2_with fail
        go_ret
        exact ⟨congrArg (fun b => Ending.returned (.bool b)) (HR.out.2 HM.out).symm, rfl⟩
      · have hb : (s.toList == o.toList) = false := beqS_ne he
        have HE3 : Hid (o ∈ l ↔ o ∈ l.drop (j + 1)) := by show _ ↔ _; rw [HE2.out]; exact ⟨fun h => h.resolve_left (fun e => he e.symm), Or.inr⟩
        clear he HE2
        go_wp2_with fail
        go_roundw
        case rel => exact ⟨j + 1, by omega, by go_num, trivial, HE3.out⟩
        case measure => simp [intOf]; omega
    · obtain rfl : j = l.length := by omega
      have HM : Hid (¬ o ∈ l) := by show ¬ _; rw [HE.out]; simp
      clear HE
      go_wp2_with fail
      go_ret
      exact ⟨congrArg (fun b => Ending.returned (.bool b)) (show false = r from (by cases hh : r with | false => rfl | true => exact absurd (HR.out.1 hh) HM.out)), rfl⟩
def primL : List ByteArray := [⟨#[42]⟩, ⟨#[43]⟩, ⟨#[45]⟩, ⟨#[60]⟩, ⟨#[61]⟩, ⟨#[99, 97, 114]⟩, ⟨#[99, 100, 114]⟩, ⟨#[99, 111, 110, 115]⟩, ⟨#[101, 113, 63]⟩, ⟨#[110, 111, 116]⟩, ⟨#[110, 117, 108, 108, 63]⟩, ⟨#[111, 117, 116]⟩, ⟨#[112, 97, 105, 114, 63]⟩]
theorem argsTab_memG : ∀ (l : List (ByteArray × Int)) (o : ByteArray), argsTab l o ≠ 0 → ∃ p ∈ l, o = p.1
  | [], o, h => absurd rfl h
  | (s, n) :: r, o, h => by
    by_cases e : o = s
    · exact ⟨(s, n), by simp, e⟩
    · simp only [argsTab, if_neg e] at h
      obtain ⟨p, hp, h2⟩ := argsTab_memG r o h
      exact ⟨p, List.mem_cons_of_mem _ hp, h2⟩
theorem primL_args (o : ByteArray) : decide (argsB o ≠ 0) = true ↔ o ∈ primL := by
  rw [decide_eq_true_iff, iff_comm]
  constructor
  · intro h
    unfold primL at h
    simp only [List.mem_cons, List.not_mem_nil, or_false] at h
    rcases h with h | h | h | h | h | h | h | h | h | h | h | h | h <;> subst h <;> decide +kernel
  · intro h
    obtain ⟨p, hp, rfl⟩ := argsTab_memG primTab o h
    unfold primTab at hp
    simp only [List.mem_cons, List.not_mem_nil, or_false] at hp
    rcases hp with rfl | rfl | rfl | rfl | rfl | rfl | rfl | rfl | rfl | rfl | rfl | rfl | rfl <;> simp [primL]

set_option maxRecDepth 100000 in
set_option maxHeartbeats 1600000 in
theorem Prim_any (o : ByteArray) (w : World) : Calls Tryz.prog 48 #[.string o] w fun e w' => e = .returned (.bool (decide (argsB o ≠ 0))) ∧ Below w.heap.size w w' := by
  have IN := hidd (in_any primL w.heap.size 13 o (w.alloc (.cells #[.string ⟨#[42]⟩, .string ⟨#[43]⟩, .string ⟨#[45]⟩, .string ⟨#[60]⟩, .string ⟨#[61]⟩, .string ⟨#[99, 97, 114]⟩, .string ⟨#[99, 100, 114]⟩, .string ⟨#[99, 111, 110, 115]⟩, .string ⟨#[101, 113, 63]⟩, .string ⟨#[110, 111, 116]⟩, .string ⟨#[110, 117, 108, 108, 63]⟩, .string ⟨#[111, 117, 116]⟩, .string ⟨#[112, 97, 105, 114, 63]⟩] 9)) (fun j s hj => by
    have h := World.cell?_alloc_mark w #[.string ⟨#[42]⟩, .string ⟨#[43]⟩, .string ⟨#[45]⟩, .string ⟨#[60]⟩, .string ⟨#[61]⟩, .string ⟨#[99, 97, 114]⟩, .string ⟨#[99, 100, 114]⟩, .string ⟨#[99, 111, 110, 115]⟩, .string ⟨#[101, 113, 63]⟩, .string ⟨#[110, 111, 116]⟩, .string ⟨#[110, 117, 108, 108, 63]⟩, .string ⟨#[111, 117, 116]⟩, .string ⟨#[112, 97, 105, 114, 63]⟩] 9 (0, 0) j
    refine h.trans ?_
    unfold primL at hj
    match j, hj with
    | 0, hj => simp at hj; subst hj; rfl
    | 1, hj => simp at hj; subst hj; rfl
    | 2, hj => simp at hj; subst hj; rfl
    | 3, hj => simp at hj; subst hj; rfl
    | 4, hj => simp at hj; subst hj; rfl
    | 5, hj => simp at hj; subst hj; rfl
    | 6, hj => simp at hj; subst hj; rfl
    | 7, hj => simp at hj; subst hj; rfl
    | 8, hj => simp at hj; subst hj; rfl
    | 9, hj => simp at hj; subst hj; rfl
    | 10, hj => simp at hj; subst hj; rfl
    | 11, hj => simp at hj; subst hj; rfl
    | 12, hj => simp at hj; subst hj; rfl
    | n + 13, hj => simp at hj) (by decide) (by decide) _ (primL_args o))
  generalize decide (argsB o ≠ 0) = r at IN ⊢
  have BA : Hid (Below w.heap.size w (w.alloc (.cells #[.string ⟨#[42]⟩, .string ⟨#[43]⟩, .string ⟨#[45]⟩, .string ⟨#[60]⟩, .string ⟨#[61]⟩, .string ⟨#[99, 97, 114]⟩, .string ⟨#[99, 100, 114]⟩, .string ⟨#[99, 111, 110, 115]⟩, .string ⟨#[101, 113, 63]⟩, .string ⟨#[110, 111, 116]⟩, .string ⟨#[110, 117, 108, 108, 63]⟩, .string ⟨#[111, 117, 116]⟩, .string ⟨#[112, 97, 105, 114, 63]⟩] 9))) := (Below.refl _ _).alloc (Nat.le_refl _) _
  go_enter Tryz.func48, Tryz.ntmps48
  go_wp2_with fail
  refine IN.out.mono ?_
  rintro e w1 ⟨rfl, rfl⟩
  clear IN
  go_wp2_with fail
  go_ret
  exact ⟨rfl, BA.out⟩
end
end Go.Proofs.YtfmanhkeclogfaaGreatDoor
