/- WHAT THE DOCUMENT'S Compile TELLS. -/
import Derived.Test.YtbbmdhkbndgdkaaK51
namespace Go.Proofs.Ytbbmdhkbndgdkaa
set_option linter.unusedVariables false
set_option linter.unusedSimpArgs false
open Go.RowKit

theorem ret8 {ts : Array Value} {W : World} {N : Nat} {x y e : Value} (h : W.heap[N]? = some (.cells #[x, y] 27 (0, 0))) (h2 : ts[2]? = some (.pointer (some ⟨N, 0, none⟩))) (h3 : ts[3]? = some e) :
    (results Try.f8 ts).run Try.prog W = .ok (.tuple #[.agg #[x, y], e]) W := by
  have q0 : W.cell? ⟨N, 0, none⟩ = some x := (cellOf h).trans rfl
  have q1 : W.cell? ⟨N, 1, none⟩ = some y := (cellOf h).trans rfl
  simp [results, Try.results8, go_sem, h2, h3, q0, q1]
theorem IE.Ok.less {ok ok' : Nat → Prop} {w : World} {e : IE} (h : e.Ok ok w) (hh : ∀ b, ok b → ok' b) : e.Ok ok' w := h.stay (fun _ _ => rfl) hh

set_option maxRecDepth 100000 in
set_option maxHeartbeats 12800000 in
theorem refCompile_any (B0 F : Nat) (nm : ByteArray) (l : List Cor) (a : Option Addr) (cap : Nat) (w : World) (hc : Cc B0 w F a l) (hB : B0 ≤ w.heap.size) (hcap : l.length ≤ cap) (hn : nmL l) :
    Calls Try.prog 8 #[.agg #[.string nm, .slice a l.length cap]] w (ToldC nm (compile l) w) := by
  have hb0 : Below w.heap.size w ((w.alloc (.cells #[.string nm, .slice a l.length cap] 24)).alloc (.cells #[.string ⟨#[]⟩, .slice none 0 0] 27)) := ((Below.refl _ _).alloc (Nat.le_refl _) _).alloc (by simp) _
  have hp0 : ((w.alloc (.cells #[.string nm, .slice a l.length cap] 24)).alloc (.cells #[.string ⟨#[]⟩, .slice none 0 0] 27)).heap[w.heap.size]? = some (.cells #[.string nm, .slice a l.length cap] 24 (0, 0)) := (Below.heap_alloc _ _ _ (by simp)).trans (World.alloc_heap_new w _)
  have hu0 : ((w.alloc (.cells #[.string nm, .slice a l.length cap] 24)).alloc (.cells #[.string ⟨#[]⟩, .slice none 0 0] 27)).heap[w.heap.size + 1]? = some (.cells #[.string ⟨#[]⟩, .slice none 0 0] 27 (0, 0)) := by
    have := World.alloc_heap_new (w.alloc (.cells #[.string nm, .slice a l.length cap] 24)) (.cells #[.string ⟨#[]⟩, .slice none 0 0] 27)
    simpa using this
  have hlen := hc.len
  have HC := hidd hc
  have HN := hidd hn
  have c0 : ((w.alloc (.cells #[.string nm, .slice a l.length cap] 24)).alloc (.cells #[.string ⟨#[]⟩, .slice none 0 0] 27)).cell? ⟨w.heap.size, 0, none⟩ = some (.string nm) := (cellOf hp0).trans rfl
  have c1 : ((w.alloc (.cells #[.string nm, .slice a l.length cap] 24)).alloc (.cells #[.string ⟨#[]⟩, .slice none 0 0] 27)).cell? ⟨w.heap.size, 1, none⟩ = some (.slice a l.length cap) := (cellOf hp0).trans rfl
  have hba : Below ((w.alloc (.cells #[.string nm, .slice a l.length cap] 24)).alloc (.cells #[.string ⟨#[]⟩, .slice none 0 0] 27)).heap.size ((w.alloc (.cells #[.string nm, .slice a l.length cap] 24)).alloc (.cells #[.string ⟨#[]⟩, .slice none 0 0] 27)) (((w.alloc (.cells #[.string nm, .slice a l.length cap] 24)).alloc (.cells #[.string ⟨#[]⟩, .slice none 0 0] 27)).alloc (.cells #[.string nm, .slice a l.length cap] 24)) := (Below.refl _ _).alloc (Nat.le_refl _) _
  have WR := hidd (refWrong1 B0 F (w.heap.size + 2) nm l a cap (((w.alloc (.cells #[.string nm, .slice a l.length cap] 24)).alloc (.cells #[.string ⟨#[]⟩, .slice none 0 0] 27)).alloc (.cells #[.string nm, .slice a l.length cap] 24)) (hc.below ((hb0.trans (hba.mono (by simp; omega))).mono hB)) (by simp; omega) hcap (by have := World.alloc_heap_new ((w.alloc (.cells #[.string nm, .slice a l.length cap] 24)).alloc (.cells #[.string ⟨#[]⟩, .slice none 0 0] 27)) (.cells #[.string nm, .slice a l.length cap] 24); simpa using this))
  have HB0 := hidd (hb0.trans (hba.mono (by simp; omega)))
  have HP0 := hidd ((hba.block _ (Array.getElem?_eq_some_iff.1 hp0).1).trans hp0)
  have HU0 := hidd ((hba.block _ (Array.getElem?_eq_some_iff.1 hu0).1).trans hu0)
  clear hc hn hb0 hp0 hu0 hba
  obtain ⟨RR, hRR⟩ : ∃ r, r = compile l := ⟨_, rfl⟩
  rw [← hRR]
  have HR := hidd hRR
  clear hRR
  unfold compile at HR
  unfold fv at WR
  simp only at WR
  have HRT : Hid (wrongB l = 0 → smCL l ∧ okL l ∧ l.length ≤ 200 ∧ sizL l + l.length ≤ 1800000 ∧ lamL l ≤ 600000 ∧ lonL l ≤ 1800000) := fun h => wrongB_right h HN.out
  have HST : Hid (wrongB l = 0 → stCL l) := fun h => wrongB_st h
  generalize wrongB l = y at WR HR HRT HST
  go_enter Try.func8, Try.ntmps8
  go_wp2_with fail
  refine WR.out.mono ?_
  rintro e v1 ⟨rfl, hb1⟩
  have ba : Below v1.heap.size v1 (v1.alloc (.cells #[.int .i64 y, .int .i64 0] 50)) := (Below.refl _ _).alloc (Nat.le_refl _) _
  have HF := hidd (World.alloc_heap_new v1 (.cells #[.int .i64 y, .int .i64 0] 50))
  have HB1 : Hid (Below w.heap.size w (v1.alloc (.cells #[.int .i64 y, .int .i64 0] 50))) := (HB0.out.trans (hb1.mono HB0.out.size)).trans (ba.mono (Nat.le_trans HB0.out.size hb1.size))
  have HP := hidd ((ba.block _ (Nat.lt_of_lt_of_le (Array.getElem?_eq_some_iff.1 HP0.out).1 hb1.size)).trans ((hb1.block _ (Array.getElem?_eq_some_iff.1 HP0.out).1).trans HP0.out))
  have HU := hidd ((ba.block _ (Nat.lt_of_lt_of_le (Array.getElem?_eq_some_iff.1 HU0.out).1 hb1.size)).trans ((hb1.block _ (Array.getElem?_eq_some_iff.1 HU0.out).1).trans HU0.out))
  have hvs : w.heap.size + 3 ≤ v1.heap.size := by have := hb1.size; simp at this; omega
  clear hb1 ba WR HB0 HP0 HU0 c0 c1
  have f0 : (v1.alloc (.cells #[.int .i64 y, .int .i64 0] 50)).cell? ⟨v1.heap.size, 0, none⟩ = some (.int .i64 y) := (cellOf HF.out).trans rfl
  by_cases y0 : y = 0
  case neg =>
    have y0' : (y != 0) = true := by simpa using y0
    have hr := HR.out
    rw [if_pos y0] at hr
    subst hr
    clear HR HRT HST
    go_upto_region 3 with fail
    generalize v1.alloc (.cells #[.int .i64 y, .int .i64 0] 50) = W1 at HF HB1 HP HU f0 ⊢
    generalize v1.heap.size = fb at HF f0 hvs ⊢
    clear f0
    refine wp_region_held_drew (S := fun u => u.heap[fb]? = some (.cells #[.int .i64 y, .int .i64 0] 50 (0, 0))) (by kernel_rfl) HF.out (fun hS => ?_)
    refine wpAnyH_take (i := 0) (oi := { dst := some 19, op := Op.build 27 #[], type := 27, pos := _, after := _, guard := none }) (v := .agg #[.string ⟨#[]⟩, .slice none 0 0]) rfl (by kernel_rfl) (by kernel_rfl) (by kernel_rfl) (fun _ _ _ h => h) (Or.inl ⟨by rfl, fun u hu => by go_simp⟩) hS ?_
    simp only [Act.put, List.setIfInBounds_toArray, List.set_cons_zero, List.set_cons_succ]
    refine wpAnyH_take (i := 1) (oi := { dst := some 20, op := Op.fieldAddr 50 (Operand.tmp 4) 0, type := 0, pos := _, after := _, guard := none }) (v := .pointer (some ⟨fb, 0, none⟩)) rfl (by kernel_rfl) (by kernel_rfl) (by kernel_rfl) (fun _ _ _ h => h) (Or.inl ⟨by rfl, fun u hu => by go_simp⟩) hS ?_
    simp only [Act.put, List.setIfInBounds_toArray, List.set_cons_zero, List.set_cons_succ]
    refine wpAnyH_take (i := 2) (oi := { dst := some 21, op := Op.load 28 (Operand.tmp 20), type := 28, pos := _, after := _, guard := none }) (v := .int .i64 y) rfl (by kernel_rfl) (by kernel_rfl) (by kernel_rfl) (fun _ _ _ h => h) (Or.inl ⟨by rfl, fun u hu => by (have z : u.cell? ⟨fb, 0, none⟩ = some (.int .i64 y) := (by simp [World.cell?, show u.heap[fb]? = _ from hu]); go_simp)⟩) hS ?_
    simp only [Act.put, List.setIfInBounds_toArray, List.set_cons_zero, List.set_cons_succ]
    refine wpAnyH_ready (rs := [3]) (by kernel_rfl) (by simp) (AllReadyH.cons (o := { dst := none, op := Op.store 27 (Operand.tmp 2) (Operand.tmp 19), type := 0, pos := _, after := _, guard := none }) rfl (fun K hK => ?_) AllReadyH.nil)
    have n0 : W1.drew.cell? ⟨w.heap.size + 1, 0, none⟩ = some (.string ⟨#[]⟩) := (cellOf (w := W1.drew) HU.out).trans rfl
    have n1 : W1.drew.cell? ⟨w.heap.size + 1, 1, none⟩ = some (.slice none 0 0) := (cellOf (w := W1.drew) HU.out).trans rfl
    have nz : ∀ q, W1.drew.frozen? ⟨w.heap.size + 1, q, none⟩ = false := fun q => by simp [World.frozen?, show W1.drew.heap[w.heap.size + 1]? = _ from HU.out]
    have m0 : W1.cell? ⟨w.heap.size + 1, 0, none⟩ = some (.string ⟨#[]⟩) := (cellOf HU.out).trans rfl
    have m1 : W1.cell? ⟨w.heap.size + 1, 1, none⟩ = some (.slice none 0 0) := (cellOf HU.out).trans rfl
    have mz : ∀ q, W1.frozen? ⟨w.heap.size + 1, q, none⟩ = false := fun q => by simp [World.frozen?, HU.out]
    go_simp
    have END := hidd (set2 (w := W1.drew) HU.out (.string ⟨#[]⟩) (.slice none 0 0))
    have hke : Keep (w.heap.size + 1) W1.drew ((W1.drew.setCell ⟨w.heap.size + 1, 0, none⟩ (.string ⟨#[]⟩)).setCell ⟨w.heap.size + 1, 1, none⟩ (.slice none 0 0)) := keep2 _ _ _ _
    have BE : Hid (Below w.heap.size w ((W1.drew.setCell ⟨w.heap.size + 1, 0, none⟩ (.string ⟨#[]⟩)).setCell ⟨w.heap.size + 1, 1, none⟩ (.slice none 0 0))) := (HB1.out.trans (Below.drew (Below.refl _ _))).trans (hke.toBelow (by omega) (Nat.le_trans HB1.out.size (Nat.le_refl _)))
    have hS3 : ((W1.drew.setCell ⟨w.heap.size + 1, 0, none⟩ (.string ⟨#[]⟩)).setCell ⟨w.heap.size + 1, 1, none⟩ (.slice none 0 0)).heap[fb]? = some (.cells #[.int .i64 y, .int .i64 0] 50 (0, 0)) := (hke.block _ (Array.getElem?_eq_some_iff.1 hS).1 (by simp; omega)).trans hS
    change K _ ((W1.drew.setCell ⟨w.heap.size + 1, 0, none⟩ (.string ⟨#[]⟩)).setCell ⟨w.heap.size + 1, 1, none⟩ (.slice none 0 0))
    generalize (W1.drew.setCell ⟨w.heap.size + 1, 0, none⟩ (.string ⟨#[]⟩)).setCell ⟨w.heap.size + 1, 1, none⟩ (.slice none 0 0) = W3 at END BE hS3 hke ⊢
    clear n0 n1 nz hke m0 m1 mz
    refine hK.out _ _ hS3 (fun hS => ?_)
    clear hK K
    refine wpAnyH_take (i := 4) (oi := { dst := some 3, op := Op.assign (Operand.tmp 21), type := 28, pos := _, after := _, guard := none }) (v := .int .i64 y) rfl (by kernel_rfl) (by kernel_rfl) (by kernel_rfl) (fun _ _ _ h => h) (Or.inl ⟨by rfl, fun u hu => by go_simp⟩) hS ?_
    simp only [Act.put, List.setIfInBounds_toArray, List.set_cons_zero, List.set_cons_succ]
    refine wpAnyH_done (by kernel_rfl) ?_ _
    go_wp2_with fail
    exact bodyPost_ret (ret8 END.out rfl rfl) rfl (ToldC.no BE.out y0)
  subst y0
  rw [if_neg (by simp)] at HR
  obtain ⟨r1, r2, r3, r4, r5, r6⟩ := HRT.out rfl
  have RST : Hid (stCL l) := HST.out rfl
  have HRR : Hid (smCL l ∧ okL l) := ⟨r1, r2⟩
  have p1 : (v1.alloc (.cells #[.int .i64 0, .int .i64 0] 50)).cell? ⟨w.heap.size, 1, none⟩ = some (.slice a l.length cap) := (cellOf HP.out).trans rfl
  clear r1 r2 HRT HN HST
  go_upto_region 4 with fail
  clear p1
  generalize v1.alloc (.cells #[.int .i64 0, .int .i64 0] 50) = W1 at HF HB1 HP HU f0 ⊢
  generalize v1.heap.size = fb at HF f0 hvs ⊢
  have hW1 : w.heap.size + 3 ≤ W1.heap.size := by have := (Array.getElem?_eq_some_iff.1 HF.out).1; omega
  have GS0 := hidd (GS.start w.heap.size (fun b => b = w.heap.size + 1 ∨ some b = (Value.slice none 0 0).ownBlock) W1 HB1.out.size (fun b e => e.elim (fun e => by omega) (fun e => by simp [Value.ownBlock] at e)))
  have ba4 : Below W1.heap.size W1 (((W1.alloc (.cells #[.slice none 0 0] 42)).alloc (.cells #[.int .i64 0] 3)).alloc (.cells #[.slice (some ⟨W1.heap.size, 0, none⟩) 1 1, .slice (some ⟨W1.heap.size + 1, 0, none⟩) 1 1] 60)) := (((Below.refl _ _).alloc (Nat.le_refl _) _).alloc (by simp) _).alloc (by simp; omega) _
  have LB0 : Hid (LB w.heap.size (W1.heap.size + 1 + 1) w (.cells #[.string nm, .slice a l.length cap] 24 (0, 0)) (.cells #[.string ⟨#[]⟩, .slice none 0 0] 27 (0, 0)) (.slice (some ⟨W1.heap.size, 0, none⟩) 1 1) (.slice (some ⟨W1.heap.size + 1, 0, none⟩) 1 1) (.slice none 0 0) [] [PE.mk 0 [] none 0] (((W1.alloc (.cells #[.slice none 0 0] 42)).alloc (.cells #[.int .i64 0] 3)).alloc (.cells #[.slice (some ⟨W1.heap.size, 0, none⟩) 1 1, .slice (some ⟨W1.heap.size + 1, 0, none⟩) 1 1] 60))) := by
    have no : ∀ b, b < W1.heap.size → ¬ (OG (W1.heap.size + 1 + 1) (.slice (some ⟨W1.heap.size, 0, none⟩) 1 1) (.slice (some ⟨W1.heap.size + 1, 0, none⟩) 1 1) b ∨ some b = (Value.slice none 0 0).ownBlock) := by
      intro b hb e
      rcases e with e | e
      · rcases e with e | e | e
        · omega
        · simp [Value.ownBlock] at e; omega
        · simp [Value.ownBlock] at e; omega
      · simp [Value.ownBlock] at e
    exact ⟨GS0.out, ⟨World.ownsRow_nil _ _ _ _, fun g hg => by simp [Value.ownBlock] at hg, by simp⟩, HB1.out.trans (ba4.mono HB1.out.size), ⟨(ba4.block _ (Array.getElem?_eq_some_iff.1 HP.out).1).trans HP.out, no _ (Array.getElem?_eq_some_iff.1 HP.out).1⟩, ⟨(ba4.block _ (Array.getElem?_eq_some_iff.1 HU.out).1).trans HU.out, no _ (Array.getElem?_eq_some_iff.1 HU.out).1⟩⟩
  clear GS0 ba4 HB1 HP HU HF f0
  go_upto_region 6 with fail
  generalize ((W1.alloc (.cells #[.slice none 0 0] 42)).alloc (.cells #[.int .i64 0] 3)).alloc (.cells #[.slice (some ⟨W1.heap.size, 0, none⟩) 1 1, .slice (some ⟨W1.heap.size + 1, 0, none⟩) 1 1] 60) = W2 at LB0 ⊢
  generalize (.slice (some ⟨W1.heap.size, 0, none⟩) 1 1 : Value) = pv0 at LB0 ⊢
  generalize (.slice (some ⟨W1.heap.size + 1, 0, none⟩) 1 1 : Value) = av0 at LB0 ⊢
  generalize W1.heap.size + 1 + 1 = G at LB0 ⊢
  have p1 : W2.cell? ⟨w.heap.size, 1, none⟩ = some (.slice a l.length cap) := (cellOf LB0.out.pb.1).trans rfl
  obtain ⟨i1, jinf, jz0, jz1, jz2⟩ := info_parts infoIns
  have CA := hidd (Code_any B0 w.heap.size hB)
  go_wp2_with fail
  clear p1
  go_loopw [6, 29] (fun bvv ix wr => ∃ (j : Nat) (pv av : Value) (ba : Option Addr) (bc : Nat) (bs : List IE) (ps1 : List PE), j ≤ l.length ∧ ix = .int .i64 j ∧ bvv = .slice ba bs.length bc ∧ bs.length ≤ bc ∧ Hid (LB w.heap.size G w (.cells #[.string nm, .slice a l.length cap] 24 (0, 0)) (.cells #[.string ⟨#[]⟩, .slice none 0 0] 27 (0, 0)) pv av (.slice ba bs.length bc) bs ([PE.mk 0 [] none 0] ++ ps1) wr) ∧ Hid (genB (l.take j) 0 1 = (bs.map IE.i, ps1.map PE.pro))) (fun _ ix _ => l.length - (intOf ix).toNat)
  case atStart => exact ⟨0, pv0, av0, none, 0, [], [], Nat.zero_le _, rfl, rfl, Nat.le_refl _, LB0.out, (show _ = _ by simp [genB])⟩
  case round =>
    clear LB0
    obtain ⟨j, pv, av, ba, bc, bs, ps1, hj, rfl, rfl, hbc, LBr, GE⟩ := hrel
    have hbl : bs.length ≤ sizL (l.take j) + j ∧ ps1.length = lamL (l.take j) := by
      have h1 := genB_len (l.take j) (fun c hc => each_len l HRR.out.2 c (List.mem_of_mem_take hc)) 0 1
      rw [GE.out] at h1
      simp only [List.length_map] at h1
      have h2 : (l.take j).length = j := by rw [List.length_take]; omega
      omega
    have hst := sizL_take l j
    have hlt' := lamL_take l j
    by_cases hlt : j < l.length
    · obtain ⟨c, hcj⟩ : ∃ c, l[j]? = some c := ⟨l[j], List.getElem?_eq_getElem hlt⟩
      have hne : l ≠ [] := by intro e; rw [e] at hlt; simp at hlt
      obtain ⟨g', b, o, hg, ha, hall⟩ := (HC.out.below (LBr.out.low.mono hB)).at hne
      subst ha
      obtain ⟨hbB, qa, qc, ka, kc, nc, ok, hq1, hk1⟩ := hall j c hcj
      have y0 := nc.c0
      have y1 := nc.c1
      have y2 := nc.c2
      have y3 := nc.c3
      have y4 := nc.c4
      have y5 := nc.c5
      have y6 := nc.c6
      have y7 := nc.c7
      have y8 := nc.c8
      have y9 := nc.c9
      have y10 := nc.c10
      have y11 := nc.c11
      have hmem := List.mem_of_getElem? hcj
      have bk : Below wr.heap.size wr (wr.alloc (.cells #[.int .i64 c.kind, .int .i64 c.index, .int .i64 c.n, .string c.lib, .string c.own, .int .i64 c.quote.kind, .int .i64 c.quote.n, .string c.quote.name, .int .i64 c.quote.stamp, .int .i64 c.quote.lib, .slice qa c.quote.kids.length qc, .slice ka c.kids.length kc] 40)) := (Below.refl _ _).alloc (Nat.le_refl _) _
      have LBa := hidd (LBr.out.below bk)
      have hcv : CvOk B0 (wr.alloc (.cells #[.int .i64 c.kind, .int .i64 c.index, .int .i64 c.n, .string c.lib, .string c.own, .int .i64 c.quote.kind, .int .i64 c.quote.n, .string c.quote.name, .int .i64 c.quote.stamp, .int .i64 c.quote.lib, .slice qa c.quote.kids.length qc, .slice ka c.kids.length kc] 40)) g' c qa qc ka kc := CvOk.below (w := wr) ⟨ok, hq1, hk1⟩ (bk.mono (Nat.le_trans hB LBr.out.gs.ble))
      have sm1 := sizL_more hcj
      have sm2 := sizL_take l (j + 1)
      have sl1 := lamL_more hcj
      have sl2 := lamL_take l (j + 1)
      have slo := lonL_mem hcj
      have okc := okL_in HRR.out.2 hmem
      have CALL := hidd (CA.out g' (fun b => b = w.heap.size + 1 ∨ some b = (Value.slice ba bs.length bc).ownBlock) G pv av ([PE.mk 0 [] none 0] ++ ps1) c qa ka qc kc (wr.alloc (.cells #[.int .i64 c.kind, .int .i64 c.index, .int .i64 c.n, .string c.lib, .string c.own, .int .i64 c.quote.kind, .int .i64 c.quote.n, .string c.quote.name, .int .i64 c.quote.stamp, .int .i64 c.quote.lib, .slice qa c.quote.kids.length qc, .slice ka c.kids.length kc] 40)) okc (smCL_in HRR.out.1 hmem) (stCL_mem _ RST.out _ hmem) (by omega) (by simp; omega) (by omega) hcv LBa.out.gs)
      unfold cva at CALL
      have GM := hidd (genB_more hcj 0 1)
      have LNC := hidd (genC_len c okc)
      have hb3 : bs.length + sizC c ≤ 2000000 := by omega
      clear nc ok hq1 hk1 hall hcj hcv bk hmem sm1 sm2 sl1 sl2 slo okc LBr hne hbl hst hlt'
      go_wp2_with fail
      refine CALL.out.mono ?_
      intro e w1 ht
      obtain ⟨pv2, av2, ps2, rv, is, rfl, lb, row, hm1, hm2⟩ := LBa.out.call ht
      obtain ⟨ra, rc, rfl, hrc⟩ := row.slice
      have hil : is.length ≤ sizC c := by
        have h5 := congrArg List.length hm1
        rw [List.length_map] at h5
        have := (LNC.out 0 ([PE.mk 0 [] none 0] ++ ps1).length).1
        omega
      have MV := hidd (moved_any is ra rc bs.length w1 (Rd.of_own row.own) hrc (by omega) (by omega) (jb_rows hm1 (by omega)))
      have LB1 := hidd lb
      have RW := hidd row
      have M1 : Hid (is.map IE.i = (genC c 0 ([PE.mk 0 [] none 0] ++ ps1).length).1 ∧ ps2.map PE.pro = (genC c 0 ([PE.mk 0 [] none 0] ++ ps1).length).2) := ⟨hm1, hm2⟩
      clear lb row hm1 hm2 ht CALL LBa LNC y0 y1 y2 y3 y4 y5 y6 y7 y8 y9 y10 y11
      go_wp2_with fail
      refine MV.out.mono ?_
      rintro e w2 ⟨mv, rfl, hbm, hom⟩
      obtain ⟨ma, mc, rfl, hmc⟩ := own_slice hom
      have RD := hidd (Rd.of_own (is := is.map (onE bs.length)) (by rw [List.length_map]; exact hom)).src
      have LB2 := hidd (LB1.out.below hbm)
      have DT : Hid (∀ e ∈ is.map (onE bs.length), e.Ok (fun b => b < w2.heap.size ∧ ¬ ((OG G pv2 av2 b ∨ b = w.heap.size + 1) ∨ some b = (Value.slice ba bs.length bc).ownBlock)) w2) := by
        intro e he
        obtain ⟨f, hf, rfl⟩ := List.mem_map.1 he
        exact onE_ok ((RW.out.ok f hf).stay (fun b hb => hbm.block b hb.1) (fun b hb => ⟨Nat.lt_of_lt_of_le hb.1 hbm.size, fun o => hb.2 (Or.inl (o.elim (fun o => o.elim Or.inl (fun o => Or.inr (Or.inl o))) (fun o => Or.inr (Or.inr o))))⟩))
      have HML : Hid ((is.map (onE bs.length)).length = is.length) := List.length_map _
      clear hbm hom MV RW LB1
      go_wp2_with (at_builtin; refine wpList_row rfl _ _ 42 rfl w.heap.size 46 i1 _ 11 128 Try.underlying42 jinf jz0 jz1 jz2 rfl (by decide) (.slice ba bs.length bc) bs.length (flatI bs) rfl LB2.out.row.own ma is.length mc (flatI (is.map (onE bs.length))) rfl (by rw [flatI_len, HML.out]) (by have q := RD.out; rwa [HML.out] at q) (flatI_one _) (by unfold maxLen; omega) (by omega) LB2.out.gs.ble ?_)
      intro bv3 w3 ho3 hg3 hw3
      have lb3 := LB2.out.grow (fs := is.map (onE bs.length)) (Below.refl _ _) DT.out (by rw [HML.out]; exact ho3) hg3 hw3
      obtain ⟨sa3, sc3, hsv3, _⟩ := own_slice ho3
      subst hsv3
      have LB3 := hidd lb3
      have HO : Hid ((w3.alloc (.cells (IE.mk (insO 14) none 0).cells.toArray 46)).ownsRow w.heap.size 46 11 (.slice sa3 (bs.length + is.length) sc3) (bs.length + is.length) (flatI (bs ++ is.map (onE bs.length))) ∧ w.heap.size ≤ (w3.alloc (.cells (IE.mk (insO 14) none 0).cells.toArray 46)).heap.size) := ⟨by have q := lb3.row.own.alloc (.cells (IE.mk (insO 14) none 0).cells.toArray 46); rwa [List.length_append, HML.out] at q, by have := lb3.gs.ble; simp; omega⟩
      clear lb3 ho3 hg3 hw3 RD DT LB2
      try simp only [Act.put, List.setIfInBounds_toArray, List.set_cons_succ, List.set_cons_zero]
      go_wp2_with (at_builtin; refine wpList_row rfl _ _ 42 rfl w.heap.size 46 i1 _ 11 128 Try.underlying42 jinf jz0 jz1 jz2 rfl (by decide) (.slice sa3 (bs.length + is.length) sc3) (bs.length + is.length) (flatI (bs ++ is.map (onE bs.length))) rfl HO.out.1 (some ⟨w3.heap.size, 0, none⟩) 1 1 (IE.mk (insO 14) none 0).cells rfl rfl (Or.inr ⟨w3.heap.size, 0, rfl, alloc1_cells w3 _ _ _ rfl⟩) (IE.one _) (by unfold maxLen; omega) (by omega) HO.out.2 ?_)
      intro bv5 w5 ho5 hg5 hw5
      obtain ⟨L3, hL3⟩ : ∃ L, L = bs ++ is.map (onE bs.length) := ⟨_, rfl⟩
      have hl3 : L3.length = bs.length + is.length := by rw [hL3, List.length_append, HML.out]
      rw [← hL3] at LB3 ho5
      have lb5 := LB3.out.grow (fs := [IE.mk (insO 14) none 0]) ((Below.refl _ _).alloc (Nat.le_refl _) (.cells (IE.mk (insO 14) none 0).cells.toArray 46)) (fun e he => by simp at he; subst he; exact ie_plain _ _ _ (Nat.zero_le _) (Nat.zero_le _) rfl) (by rw [hl3]; simpa [flatI] using ho5) hg5 (by simpa using hw5)
      obtain ⟨sa5, sc5, hsv5, hsc5⟩ := own_slice ho5
      subst hsv5
      have LL5 : (L3 ++ [IE.mk (insO 14) none 0]).length = bs.length + is.length + 1 := by rw [List.length_append, hl3]; rfl
      have REL : Hid (LB w.heap.size G w (.cells #[.string nm, .slice (some ⟨b, o, none⟩) l.length cap] 24 (0, 0)) (.cells #[.string ⟨#[]⟩, .slice none 0 0] 27 (0, 0)) pv2 av2 (.slice sa5 (L3 ++ [IE.mk (insO 14) none 0]).length sc5) (L3 ++ [IE.mk (insO 14) none 0]) ([PE.mk 0 [] none 0] ++ (ps1 ++ ps2)) w5) := by
        show LB _ _ _ _ _ _ _ _ _ _ _
        rw [LL5, ← List.append_assoc]
        exact lb5
      have GE2 : Hid (genB (l.take (j + 1)) 0 1 = ((L3 ++ [IE.mk (insO 14) none 0]).map IE.i, (ps1 ++ ps2).map PE.pro)) := by
        show _ = _
        rw [GM.out, GE.out]
        simp only [List.length_map]
        rw [genC_at c (0 + bs.length) (1 + ps1.length), hL3]
        have e1 : ([PE.mk 0 [] none 0] ++ ps1).length = 1 + ps1.length := by simp; omega
        have m1 := M1.out
        rw [e1] at m1
        simp only [List.map_append, onE_map, List.map_cons, List.map_nil]
        rw [m1.1, m1.2, Nat.zero_add]
      have hsc6 : (L3 ++ [IE.mk (insO 14) none 0]).length ≤ sc5 := by rw [LL5]; exact hsc5
      rw [← LL5]
      generalize L3 ++ [IE.mk (insO 14) none 0] = L5 at REL GE2 hsc6 ⊢
      clear lb5 ho5 hg5 hw5 LL5 hl3 hL3 LB3 HO hsc5
      try simp only [Act.put, List.setIfInBounds_toArray, List.set_cons_succ, List.set_cons_zero]
      go_wp2_with fail
      go_roundw
      case rel => exact ⟨j + 1, pv2, av2, sa5, sc5, L5, ps1 ++ ps2, by omega, by go_num, rfl, hsc6, REL.out, GE2.out⟩
      case measure => simp [intOf]; omega
    · obtain rfl : j = l.length := by omega
      rw [List.take_length] at GE hbl
      obtain ⟨g, pcap, hpv, hpcap, hgB, hgl, hgo, hgc⟩ := own_at LBr.out.gs.pr (by simp)
      obtain ⟨N, hN⟩ : ∃ N, N = ([PE.mk 0 [] none 0] ++ ps1).length := ⟨_, rfl⟩
      rw [← hN] at hpv hpcap
      subst hpv
      have hN1 : N = ps1.length + 1 := by rw [hN]; simp
      have hN0 : 0 < N := by omega
      have hN2 : N ≤ 1000000 := by omega
      have hbs : bs.length ≤ 2000000 := by omega
      have HN := hidd hN
      have HPL := hidd (hgc 0 (.slice none 0 0) rfl)
      have RB : Hid (RowR w.heap.size (fun b => OG G (.slice (some ⟨g, 0, none⟩) N pcap) av b ∨ b = w.heap.size + 1) (.slice ba bs.length bc) bs wr) := LBr.out.row
      have hoob : B0 ≤ w.heap.size := hB
      clear hN hgc hbl hst hlt' hN1
      go_upto_region 12 with fail
      have GB := hidd (show wr.drew.heap[G]? = some (.cells #[.slice (some ⟨g, 0, none⟩) N pcap, av] 60 (0, 0)) from LBr.out.gs.box)
      refine wp_region_held_drew (S := fun u => u.heap[G]? = some (.cells #[.slice (some ⟨g, 0, none⟩) N pcap, av] 60 (0, 0))) (by kernel_rfl) GB.out (fun hS => ?_)
      refine wpAnyH_take (i := 0) (oi := { dst := some 46, op := Op.move (Operand.tmp 5), type := 57, pos := _, after := _, guard := none }) (v := .pointer (some ⟨G, 0, none⟩)) rfl (by kernel_rfl) (by kernel_rfl) (by kernel_rfl) (fun _ _ _ h => h) (Or.inl ⟨by rfl, fun u hu => by go_simp⟩) hS ?_
      simp only [Act.put, List.setIfInBounds_toArray, List.set_cons_zero, List.set_cons_succ]
      refine wpAnyH_take (i := 1) (oi := { dst := some 47, op := Op.nilCheck (Operand.tmp 46), type := 0, pos := _, after := _, guard := none }) (v := .pointer (some ⟨G, 0, none⟩)) rfl (by kernel_rfl) (by kernel_rfl) (by kernel_rfl) (fun _ _ _ h => h) (Or.inl ⟨by rfl, fun u hu => by go_simp⟩) hS ?_
      simp only [Act.put, List.setIfInBounds_toArray, List.set_cons_zero, List.set_cons_succ]
      refine wpAnyH_take (i := 2) (oi := { dst := some 48, op := Op.fieldAddr 60 (Operand.tmp 47) 0, type := 0, pos := _, after := _, guard := none }) (v := .pointer (some ⟨G, 0, none⟩)) rfl (by kernel_rfl) (by kernel_rfl) (by kernel_rfl) (fun _ _ _ h => h) (Or.inl ⟨by rfl, fun u hu => by go_simp⟩) hS ?_
      simp only [Act.put, List.setIfInBounds_toArray, List.set_cons_zero, List.set_cons_succ]
      refine wpAnyH_take (i := 3) (oi := { dst := some 49, op := Op.load 58 (Operand.tmp 48), type := 58, pos := _, after := _, guard := none }) (v := .slice (some ⟨g, 0, none⟩) N pcap) rfl (by kernel_rfl) (by kernel_rfl) (by kernel_rfl) (fun _ _ _ h => h) (Or.inl ⟨by rfl, fun u hu => by (have z : u.cell? ⟨G, 0, none⟩ = some (.slice (some ⟨g, 0, none⟩) N pcap) := (by simp [World.cell?, show u.heap[G]? = _ from hu]); go_simp)⟩) hS ?_
      simp only [Act.put, List.setIfInBounds_toArray, List.set_cons_zero, List.set_cons_succ]
      refine wpAnyH_take (i := 4) (oi := { dst := some 50, op := Op.move (Operand.tmp 6), type := 42, pos := _, after := _, guard := none }) (v := .slice ba bs.length bc) rfl (by kernel_rfl) (by kernel_rfl) (by kernel_rfl) (fun _ _ _ h => h) (Or.inl ⟨by rfl, fun u hu => by go_simp⟩) hS ?_
      simp only [Act.put, List.setIfInBounds_toArray, List.set_cons_zero, List.set_cons_succ]
      refine wpAnyH_take (i := 5) (oi := { dst := some 51, op := Op.build 46 #[(0, Operand.const (Value.int IntKind.i64 15))], type := 46, pos := _, after := _, guard := none }) (v := .agg #[.int .i64 15, .int .i64 0, .int .i64 0, .string ⟨#[]⟩, .string ⟨#[]⟩, .int .i64 0, .int .i64 0, .string ⟨#[]⟩, .int .i64 0, .int .i64 0, .slice none 0 0]) rfl (by kernel_rfl) (by kernel_rfl) (by kernel_rfl) (fun _ _ _ h => h) (Or.inl ⟨by rfl, fun u hu => by go_simp⟩) hS ?_
      simp only [Act.put, List.setIfInBounds_toArray, List.set_cons_zero, List.set_cons_succ]
      refine wpAnyH_ready (rs := [6]) (by kernel_rfl) (by simp) (AllReadyH.cons (o := { dst := some 52, op := Op.buildSlice 42 1 #[(0, Operand.tmp 51)], type := 42, pos := _, after := _, guard := none }) rfl (fun K hK => ?_) AllReadyH.nil)
      go_simp
      have hb5 : Below wr.drew.heap.size wr.drew (wr.drew.alloc (.cells (IE.mk (insO 15) none 0).cells.toArray 46)) := (Below.refl _ _).alloc (Nat.le_refl _) _
      have hN5 : Hid ((wr.drew.alloc (.cells (IE.mk (insO 15) none 0).cells.toArray 46)).heap[wr.heap.size]? = some (.cells (IE.mk (insO 15) none 0).cells.toArray 46 (0, 0))) := World.alloc_heap_new wr.drew _
      have hS5 : (wr.drew.alloc (.cells (IE.mk (insO 15) none 0).cells.toArray 46)).heap[G]? = some (.cells #[.slice (some ⟨g, 0, none⟩) N pcap, av] 60 (0, 0)) := (hb5.block _ (Array.getElem?_eq_some_iff.1 hS).1).trans hS
      have BW5 : Hid (Below wr.heap.size wr (wr.drew.alloc (.cells (IE.mk (insO 15) none 0).cells.toArray 46))) := (Below.drew (Below.refl _ _)).trans hb5
      change K _ (wr.drew.alloc (.cells (IE.mk (insO 15) none 0).cells.toArray 46))
      generalize wr.drew.alloc (.cells (IE.mk (insO 15) none 0).cells.toArray 46) = w5 at hN5 hS5 BW5 ⊢
      clear hb5
      refine hK.out _ _ hS5 (fun hS => ?_)
      clear hK K
      refine wpAnyH_ready (rs := [7]) (by kernel_rfl) (by simp) (AllReadyH.cons (o := { dst := some 53, op := Op.call { callee := Callee.builtin Builtin.append, args := #[Operand.tmp 50, Operand.tmp 52], argTypes := #[42, 42] }, type := 42, pos := _, after := _, guard := none }) rfl (fun K hK => ?_) AllReadyH.nil)
      refine step_row rfl (.tmp 50) (.tmp 52) 42 rfl w.heap.size 46 i1 _ 11 128 Try.underlying42 jinf jz0 jz1 jz2 rfl (by decide) (.slice ba bs.length bc) bs.length (flatI bs) rfl (own_below RB.out.own BW5.out) (some ⟨wr.heap.size, 0, none⟩) 1 1 (IE.mk (insO 15) none 0).cells rfl rfl (Or.inr ⟨wr.heap.size, 0, rfl, fun j u hu => by rw [Nat.zero_add]; refine (cellOf hN5.out).trans ?_; rw [← hu]; simp⟩) (IE.one _) (by unfold maxLen; omega) (by omega) (Nat.le_trans LBr.out.gs.ble BW5.out.size) ?_
      intro rv' w6 hown6 hg6 hw6
      obtain ⟨row6, fm6⟩ := RB.out.push BW5.out LBr.out.gs.ble (fun b e => e.elim (fun e => (LBr.out.gs.oglt e).2) (fun e => LBr.out.gs.xlt b (Or.inl e))) (IE.mk (insO 15) none 0) (ie_plain _ _ _ (Nat.zero_le _) (Nat.zero_le _) rfl) hown6 hg6 hw6
      obtain ⟨sa, sc, hsv, _⟩ := own_slice hown6
      subst hsv
      have hS6 : w6.heap[G]? = some (.cells #[.slice (some ⟨g, 0, none⟩) N pcap, av] 60 (0, 0)) := (hg6.block G (Array.getElem?_eq_some_iff.1 hS).1 (fun e => RB.out.nb G e.symm (Or.inl (Or.inl rfl)))).trans hS
      have PUT := hidd (GS.put (X := fun b => b = w.heap.size + 1) (ps := []) (i := 0) (es := bs ++ [IE.mk (insO 15) none 0]) (ra := sa) (rc := sc) HN.out (LBr.out.gs) RB.out.nb (by simpa using row6) (by simpa using fm6))
      have hgr : ¬ some g = (Value.slice ba bs.length bc).ownBlock := fun e => RB.out.nb g e.symm (Or.inl (Or.inr (Or.inl hgo.symm)))
      have G6 : w6.heap[g]? = wr.heap[g]? := fm6.keep g hgl hgr
      have c6 : Hid (w6.cell? ⟨g, 0, none⟩ = some (.slice none 0 0)) := (World.cell?_of_block (a := ⟨g, 0, none⟩) G6).trans HPL.out
      have z6 : Hid (w6.frozen? ⟨g, 0, none⟩ = false) := by
        obtain ⟨g2, cap2, cur2, e2, _, hb2, _⟩ := LBr.out.gs.pr.2.resolve_left (by intro hh; have := hh.2; simp at this)
        simp only [Value.slice.injEq, Option.some.injEq, Addr.mk.injEq, and_true] at e2
        obtain ⟨e3, _, _⟩ := e2
        have hb3 : w6.heap[g]? = some (.cells cur2 42 (0, 0)) := by rw [G6, e3]; exact hb2
        show _ = _
        simp [World.frozen?, hb3]
      have kb : ∀ n A, Nb (fun b => OG G (.slice (some ⟨g, 0, none⟩) N pcap) av b ∨ some b = (Value.slice ba bs.length bc).ownBlock) n A wr → w6.heap[n]? = some A ∧ n ≠ g := fun n A h => ⟨(fm6.keep n (Array.getElem?_eq_some_iff.1 h.1).1 (fun e => h.2 (Or.inr e))).trans h.1, fun e => h.2 (Or.inl (Or.inr (Or.inl (by rw [e]; exact hgo.symm))))⟩
      have PB6 := hidd (kb _ _ LBr.out.pb)
      have UB6 := hidd (kb _ _ LBr.out.ub)
      have BL6 := hidd (LBr.out.low.trans fm6.low)
      clear hown6 hg6 hw6 row6 fm6 G6 hgr kb
      show K _ w6
      refine hK.out _ _ hS6 (fun hS => ?_)
      clear hK K
      refine wpAnyH_take (i := 8) (oi := { dst := some 54, op := Op.indexAddr 58 (Operand.tmp 49) (Operand.const (Value.int IntKind.i64 0)), type := 0, pos := _, after := _, guard := none }) (v := .pointer (some ⟨g, 0, none⟩)) rfl (by kernel_rfl) (by kernel_rfl) (by kernel_rfl) (fun _ _ _ h => h) (Or.inl ⟨by rfl, fun u hu => by go_simp⟩) hS ?_
      simp only [Act.put, List.setIfInBounds_toArray, List.set_cons_zero, List.set_cons_succ]
      refine wpAnyH_ready (rs := [9]) (by kernel_rfl) (by simp) (AllReadyH.cons (o := { dst := none, op := Op.store 42 (Operand.tmp 54) (Operand.tmp 53), type := 0, pos := _, after := _, guard := none }) rfl (fun K hK => ?_) AllReadyH.nil)
      have n6 := c6.out
      have nz := z6.out
      go_simp
      clear n6 nz
      have hS7 : (w6.setCell ⟨g, 0, none⟩ (.slice sa (bs.length + 1) sc)).heap[G]? = some (.cells #[.slice (some ⟨g, 0, none⟩) N pcap, av] 60 (0, 0)) := (Below.heap_setCell _ _ _ _ (by show G ≠ g; intro e; exact LBr.out.gs.s1 (by rw [hgo, e]))).trans hS
      change K _ (w6.setCell ⟨g, 0, none⟩ (.slice sa (bs.length + 1) sc))
      have PUT2 : Hid (GS w.heap.size (fun b => b = w.heap.size + 1) G (.slice (some ⟨g, 0, none⟩) N pcap) av ([PE.mk 0 (bs ++ [IE.mk (insO 15) none 0]) sa sc] ++ ps1) (w6.setCell ⟨g, 0, none⟩ (.slice sa (bs.length + 1) sc))) := by have := PUT.out; show GS _ _ _ _ _ _ _; simpa using this
      have PB7 : Hid ((w6.setCell ⟨g, 0, none⟩ (.slice sa (bs.length + 1) sc)).heap[w.heap.size]? = _) := (Below.heap_setCell _ _ _ _ (by show w.heap.size ≠ g; exact PB6.out.2)).trans PB6.out.1
      have UB7 : Hid ((w6.setCell ⟨g, 0, none⟩ (.slice sa (bs.length + 1) sc)).heap[w.heap.size + 1]? = _) := (Below.heap_setCell _ _ _ _ (by show w.heap.size + 1 ≠ g; exact UB6.out.2)).trans UB6.out.1
      have BL7 : Hid (Below w.heap.size w (w6.setCell ⟨g, 0, none⟩ (.slice sa (bs.length + 1) sc))) := BL6.out.setCell (p := ⟨g, 0, none⟩) hgB _
      clear PUT PB6 UB6 BL6 c6 z6
      generalize w6.setCell ⟨g, 0, none⟩ (.slice sa (bs.length + 1) sc) = w7 at PUT2 PB7 UB7 BL7 hS7 ⊢
      refine hK.out _ _ hS7 (fun hS => ?_)
      clear hK K
      refine wpAnyH_done (by kernel_rfl) ?_ _
      have PSM : Hid (([PE.mk 0 (bs ++ [IE.mk (insO 15) none 0]) sa sc] ++ ps1).map PE.pro = protosOf l) := by
        show _ = _
        unfold protosOf
        rw [GE.out, List.map_append]
        simp [PE.pro]
      have HNN : Hid (([PE.mk 0 (bs ++ [IE.mk (insO 15) none 0]) sa sc] ++ ps1).length = N) := by show _ = _; rw [HN.out]; simp
      clear LBr RB GE HPL HN hS GB hN5 BW5
      generalize [PE.mk 0 (bs ++ [IE.mk (insO 15) none 0]) sa sc] ++ ps1 = ps at PUT2 PSM HNN
      obtain ⟨g3, pc3, hp3, hpc3, _, _, _, hpc⟩ := own_at PUT2.out.pr (by rw [HNN.out]; exact hN0)
      obtain ⟨ag, acap, hav, hacap, hagB, hagl, hago, hagc⟩ := own_at PUT2.out.ar (by rw [HNN.out]; exact hN0)
      rw [HNN.out] at hav hacap hp3
      obtain rfl : g = g3 := by simp at hp3; exact hp3.1
      subst hav
      have hGl := PUT2.out.lt
      have hgl7 : g < w7.heap.size := (PUT2.out.oglt (Or.inr (Or.inl rfl))).2
      have huq : w.heap.size + 1 < w7.heap.size := (Array.getElem?_eq_some_iff.1 UB7.out).1
      have DAT : Hid (w7.cell? ⟨G, 0, none⟩ = some (.slice (some ⟨g, 0, none⟩) N pcap) ∧ w7.cell? ⟨G, 1, none⟩ = some (.slice (some ⟨ag, 0, none⟩) N acap) ∧ (∀ j p, ps[j]? = some p → w7.cell? ⟨g, j, none⟩ = some (.slice p.a p.es.length p.c) ∧ w7.cell? ⟨ag, j, none⟩ = some (.int .i64 p.args)) ∧ ∀ p ∈ ps, p.Ok (fun b => b < w7.heap.size ∧ b ≠ w.heap.size + 1) w7) := by
        refine ⟨(cellOf PUT2.out.box).trans rfl, (cellOf PUT2.out.box).trans rfl, fun j p hp => ⟨hpc j _ (by rw [List.getElem?_map, hp]; rfl), hagc j _ (by unfold ints; rw [List.getElem?_map, List.getElem?_map, hp]; rfl)⟩, fun p hp => (PUT2.out.ok p hp).stay (fun _ _ => rfl) (fun b hb => ⟨hb.1, fun e => hb.2 (Or.inr e)⟩)⟩
      clear PUT2 hpc hagc hp3 hpc3 hago hS5 hS6 hS7
      have d0 : w7.cell? ⟨w.heap.size, 0, none⟩ = some (.string nm) := (cellOf PB7.out).trans rfl
      have bu : Below w7.heap.size w7 (w7.alloc (.cells #[.string nm, .slice none 0 0] 27)) := (Below.refl _ _).alloc (Nat.le_refl _) _
      have AU0 : Hid (AU w7.heap.size nm (.slice none 0 0) [] (w7.alloc (.cells #[.string nm, .slice none 0 0] 27))) := ⟨World.alloc_heap_new w7 _, World.ownsRow_nil _ _ _ _, by simp [Value.ownBlock]⟩
      have BU0 := hidd bu
      clear bu
      go_upto_region 14 with fail
      clear d0
      generalize w7.alloc (.cells #[.string nm, .slice none 0 0] 27) = w8 at AU0 BU0 ⊢
      have q0 := (BU0.out.cell (p := ⟨G, 0, none⟩) hGl).trans DAT.out.1
      obtain ⟨Q, hQ⟩ : ∃ Q, Q = w7.heap.size := ⟨_, rfl⟩
      rw [← hQ] at AU0 BU0 hGl hgl7 huq DAT hagl ⊢
      have HQ := hidd hQ
      clear hQ PB7
      obtain ⟨i2, linf, lz0, lz1, lz2⟩ := info_parts infoPro
      go_wp2_with fail
      clear q0
      go_loopw [63] (fun ix wr => ∃ (j : Nat) (ua : Option Addr) (uc : Nat), j ≤ N ∧ ix = .int .i64 j ∧ Hid (Below Q w7 wr) ∧ Hid (AU Q nm (.slice ua j uc) (ps.take j) wr) ∧ Hid ((∀ p ∈ ps.take j, p.es.length ≤ 6000) ∧ (0 < j → N ≤ 500))) (fun ix _ => N - (intOf ix).toNat)
      case atStart => exact ⟨0, none, 0, Nat.zero_le _, rfl, BU0.out, (show AU _ _ _ _ _ by simpa using AU0.out), ⟨by simp, by simp⟩⟩
      case round =>
        clear AU0 BU0
        obtain ⟨j, ua, uc, hj, rfl, HB, AUr, MN⟩ := hrel
        by_cases hlt : j < N
        · obtain ⟨p, hp⟩ : ∃ p, ps[j]? = some p := ⟨ps[j]'(by rw [HNN.out]; exact hlt), List.getElem?_eq_getElem _⟩
          obtain ⟨e1, e2⟩ := DAT.out.2.2.1 j p hp
          have k1 := (HB.out.cell (p := ⟨g, j, none⟩) hgl7).trans e1
          have k2 := (HB.out.cell (p := ⟨G, 0, none⟩) hGl).trans DAT.out.1
          have TK := hidd (take_more hp)
          have HPM := hidd (List.mem_of_getElem? hp)
          have E1 := hidd e1
          have E2 := hidd e2
          have ub1 := (HB.out.block _ huq).trans UB7.out
          have UBr := hidd ub1
          have HTL : Hid ((ps.take j).length = j) := by show _ = _; rw [List.length_take, HNN.out]; omega
          obtain ⟨ar, pes, pa, pc⟩ := p
          simp only at k1 e1 e2 E1 E2
          clear e1 e2 hp ub1
          by_cases hmu : 6000 < pes.length ∨ 500 < N
          · have MT : Hid (muchP (protosOf l) = true) := by
              show _ = _
              rw [← PSM.out]
              unfold muchP
              rw [List.length_map, HNN.out]
              rcases hmu with h | h
              · simp only [Bool.or_eq_true, List.any_eq_true, decide_eq_true_eq]
                exact Or.inr ⟨_, List.mem_map_of_mem HPM.out, by simpa [PE.pro] using h⟩
              · simp [h]
            have hr := HR.out
            rw [if_pos MT.out] at hr
            subst hr
            have n0 : wr.cell? ⟨w.heap.size + 1, 0, none⟩ = some (.string ⟨#[]⟩) := (cellOf UBr.out).trans rfl
            have n1 : wr.cell? ⟨w.heap.size + 1, 1, none⟩ = some (.slice none 0 0) := (cellOf UBr.out).trans rfl
            have nz : ∀ q, wr.frozen? ⟨w.heap.size + 1, q, none⟩ = false := fun q => by simp [World.frozen?, UBr.out]
            have END := hidd (set2 UBr.out (.string ⟨#[]⟩) (.slice none 0 0))
            have BE : Hid (Below w.heap.size w ((wr.setCell ⟨w.heap.size + 1, 0, none⟩ (.string ⟨#[]⟩)).setCell ⟨w.heap.size + 1, 1, none⟩ (.slice none 0 0))) := ((BL7.out.trans (HB.out.mono (by omega))).setCell (p := ⟨w.heap.size + 1, 0, none⟩) (by show w.heap.size ≤ w.heap.size + 1; omega) _).setCell (p := ⟨w.heap.size + 1, 1, none⟩) (by show w.heap.size ≤ w.heap.size + 1; omega) _
            clear HR MT AUr MN PSM DAT
            by_cases h6 : 6000 < pes.length
            · have h6' : (6000 : Int) < pes.length := by omega
              clear hmu
              go_wp2_with fail
              exact bodyPost_ret (ret8 END.out rfl rfl) rfl (ToldC.no BE.out (by decide))
            · have h5 : 500 < N := hmu.resolve_left h6
              have h6' : ¬ (6000 : Int) < pes.length := by omega
              have h5' : (500 : Int) < N := by omega
              clear hmu
              go_wp2_with fail
              exact bodyPost_ret (ret8 END.out rfl rfl) rfl (ToldC.no BE.out (by decide))
          · have h6 : pes.length ≤ 6000 := by omega
            have h5 : N ≤ 500 := by omega
            have h6' : ¬ (6000 : Int) < pes.length := by omega
            have h5' : ¬ (500 : Int) < N := by omega
            clear hmu
            go_upto_region 19 with fail
            clear k1 k2
            have AU_0 := hidd (AUr.out.below (Below.drew (Below.refl _ _)))
            have BW_0 : Hid (Below wr.heap.size wr wr.drew) := Below.drew (Below.refl _ _)
            refine wp_region_held_drew (S := fun u => Below Q w7 u) (by kernel_rfl) (Below.drew HB.out) (fun hS => ?_)
            refine wpAnyH_take (i := 0) (oi := { dst := some 80, op := Op.fieldAddr 27 (Operand.tmp 10) 1, type := 0, pos := _, after := _, guard := none }) (v := .pointer (some ⟨Q, 1, none⟩)) rfl (by kernel_rfl) (by kernel_rfl) (by kernel_rfl) (fun _ _ _ h => h) (Or.inl ⟨by rfl, fun u hu => by go_simp⟩) hS ?_
            simp only [Act.put, List.setIfInBounds_toArray, List.set_cons_zero, List.set_cons_succ]
            refine wpAnyH_take (i := 2) (oi := { dst := some 82, op := Op.move (Operand.tmp 5), type := 57, pos := _, after := _, guard := none }) (v := .pointer (some ⟨G, 0, none⟩)) rfl (by kernel_rfl) (by kernel_rfl) (by kernel_rfl) (fun _ _ _ h => h) (Or.inl ⟨by rfl, fun u hu => by go_simp⟩) hS ?_
            simp only [Act.put, List.setIfInBounds_toArray, List.set_cons_zero, List.set_cons_succ]
            refine wpAnyH_take (i := 3) (oi := { dst := some 83, op := Op.nilCheck (Operand.tmp 82), type := 0, pos := _, after := _, guard := none }) (v := .pointer (some ⟨G, 0, none⟩)) rfl (by kernel_rfl) (by kernel_rfl) (by kernel_rfl) (fun _ _ _ h => h) (Or.inl ⟨by rfl, fun u hu => by go_simp⟩) hS ?_
            simp only [Act.put, List.setIfInBounds_toArray, List.set_cons_zero, List.set_cons_succ]
            refine wpAnyH_take (i := 4) (oi := { dst := some 84, op := Op.fieldAddr 60 (Operand.tmp 83) 1, type := 0, pos := _, after := _, guard := none }) (v := .pointer (some ⟨G, 1, none⟩)) rfl (by kernel_rfl) (by kernel_rfl) (by kernel_rfl) (fun _ _ _ h => h) (Or.inl ⟨by rfl, fun u hu => by go_simp⟩) hS ?_
            simp only [Act.put, List.setIfInBounds_toArray, List.set_cons_zero, List.set_cons_succ]
            refine wpAnyH_take (i := 5) (oi := { dst := some 85, op := Op.load 34 (Operand.tmp 84), type := 34, pos := _, after := _, guard := none }) (v := .slice (some ⟨ag, 0, none⟩) N acap) rfl (by kernel_rfl) (by kernel_rfl) (by kernel_rfl) (fun _ _ _ h => h) (Or.inl ⟨by rfl, fun u hu => by (have z := (hu.cell (p := ⟨G, 1, none⟩) hGl).trans DAT.out.2.1; go_simp)⟩) hS ?_
            simp only [Act.put, List.setIfInBounds_toArray, List.set_cons_zero, List.set_cons_succ]
            refine wpAnyH_take (i := 6) (oi := { dst := some 86, op := Op.move (Operand.tmp 11), type := 3, pos := _, after := _, guard := none }) (v := .int .i64 j) rfl (by kernel_rfl) (by kernel_rfl) (by kernel_rfl) (fun _ _ _ h => h) (Or.inl ⟨by rfl, fun u hu => by go_simp⟩) hS ?_
            simp only [Act.put, List.setIfInBounds_toArray, List.set_cons_zero, List.set_cons_succ]
            refine wpAnyH_take (i := 7) (oi := { dst := some 87, op := Op.indexAddr 34 (Operand.tmp 85) (Operand.tmp 86), type := 0, pos := _, after := _, guard := none }) (v := .pointer (some ⟨ag, j, none⟩)) rfl (by kernel_rfl) (by kernel_rfl) (by kernel_rfl) (fun _ _ _ h => h) (Or.inl ⟨by rfl, fun u hu => by go_simp⟩) hS ?_
            simp only [Act.put, List.setIfInBounds_toArray, List.set_cons_zero, List.set_cons_succ]
            refine wpAnyH_take (i := 8) (oi := { dst := some 88, op := Op.load 3 (Operand.tmp 87), type := 3, pos := _, after := _, guard := none }) (v := .int .i64 ar) rfl (by kernel_rfl) (by kernel_rfl) (by kernel_rfl) (fun _ _ _ h => h) (Or.inl ⟨by rfl, fun u hu => by (have z := (hu.cell (p := ⟨ag, j, none⟩) hagl).trans E2.out; go_simp)⟩) hS ?_
            simp only [Act.put, List.setIfInBounds_toArray, List.set_cons_zero, List.set_cons_succ]
            refine wpAnyH_take (i := 9) (oi := { dst := some 89, op := Op.move (Operand.tmp 12), type := 42, pos := _, after := _, guard := none }) (v := .slice pa pes.length pc) rfl (by kernel_rfl) (by kernel_rfl) (by kernel_rfl) (fun _ _ _ h => h) (Or.inl ⟨by rfl, fun u hu => by go_simp⟩) hS ?_
            simp only [Act.put, List.setIfInBounds_toArray, List.set_cons_zero, List.set_cons_succ]
            refine wpAnyH_take (i := 10) (oi := { dst := some 90, op := Op.build 44 #[(0, Operand.tmp 88), (1, Operand.tmp 89)], type := 44, pos := _, after := _, guard := none }) (v := .agg #[.int .i64 ar, .slice pa pes.length pc]) rfl (by kernel_rfl) (by kernel_rfl) (by kernel_rfl) (fun _ _ _ h => h) (Or.inl ⟨by rfl, fun u hu => by go_simp⟩) hS ?_
            simp only [Act.put, List.setIfInBounds_toArray, List.set_cons_zero, List.set_cons_succ]
            refine wpAnyH_ready (rs := [1, 11]) (by kernel_rfl) (by simp) (AllReadyH.cons (o := { dst := some 81, op := Op.load 25 (Operand.tmp 80), type := 25, pos := _, after := _, guard := none }) rfl (fun K hK => ?_) (AllReadyH.cons (o := { dst := some 91, op := Op.buildSlice 25 1 #[(0, Operand.tmp 90)], type := 25, pos := _, after := _, guard := none }) rfl (fun K hK => ?_) AllReadyH.nil))
            · have zt : wr.drew.cell? ⟨Q, 1, none⟩ = some (.slice ua j uc) := (cellOf AU_0.out.box).trans rfl
              go_simp
              clear zt
              refine hK.out _ _ hS (fun hS => ?_)
              clear hK K
              refine wpAnyH_ready (rs := [11]) (by kernel_rfl) (by simp) (AllReadyH.cons (o := { dst := some 91, op := Op.buildSlice 25 1 #[(0, Operand.tmp 90)], type := 25, pos := _, after := _, guard := none }) rfl (fun K hK => ?_) AllReadyH.nil)
              go_simp
              have hb1 : Below wr.drew.heap.size wr.drew (wr.drew.alloc (.cells #[.int .i64 ar, .slice pa pes.length pc] 44)) := (Below.refl _ _).alloc (Nat.le_refl _) _
              have hN1 : Hid ((wr.drew.alloc (.cells #[.int .i64 ar, .slice pa pes.length pc] 44)).heap[wr.heap.size]? = some (.cells #[.int .i64 ar, .slice pa pes.length pc] 44 (0, 0))) := World.alloc_heap_new wr.drew _
              have hS1 := hS.trans (hb1.mono (Nat.le_of_lt AU_0.out.lt))
              change K _ (wr.drew.alloc (.cells #[.int .i64 ar, .slice pa pes.length pc] 44))
              generalize wr.drew.alloc (.cells #[.int .i64 ar, .slice pa pes.length pc] 44) = V1 at hb1 hN1 hS1 ⊢
              have AU_1 : Hid (AU Q nm (.slice ua j uc) (ps.take j) V1) := AU_0.out.below hb1
              have BW_1 : Hid (Below wr.heap.size wr V1) := BW_0.out.trans (hb1.mono BW_0.out.size)
              clear hb1
              refine hK.out _ _ hS1 (fun hS => ?_)
              clear hK K
              refine wpAnyH_ready (rs := [12]) (by kernel_rfl) (by simp) (AllReadyH.cons (o := { dst := some 92, op := Op.call { callee := Callee.builtin Builtin.append, args := #[Operand.tmp 81, Operand.tmp 91], argTypes := #[25, 25] }, type := 25, pos := _, after := _, guard := none }) rfl (fun K hK => ?_) AllReadyH.nil)
              refine step_row rfl (.tmp 81) (.tmp 91) 25 rfl Q 44 i2 _ 2 32 Try.underlying25 linf lz0 lz1 lz2 rfl (by decide) (.slice ua j uc) j (flatP (ps.take j)) rfl (by have q := AU_1.out.row; rwa [HTL.out] at q) (some ⟨wr.heap.size, 0, none⟩) 1 1 (PE.mk ar pes pa pc).cells rfl rfl (Or.inr ⟨wr.heap.size, 0, rfl, fun q u hu => by rw [Nat.zero_add]; refine (cellOf hN1.out).trans ?_; rw [← hu]; simp [PE.cells]⟩) (by intro u hu; simp [PE.cells] at hu; rcases hu with rfl | rfl <;> rfl) (by unfold maxLen; omega) (by omega) (Nat.le_of_lt AU_1.out.lt) ?_
              intro uv2 w4 hown4 hg4 hw4
              obtain ⟨hau, hbq⟩ := AUr.out.push (p := PE.mk ar pes pa pc) BW_1.out (by rw [HTL.out]; exact hown4) hg4 hw4
              have T4 : w4.heap[Q]? = some (.cells #[.string nm, .slice ua j uc] 27 (0, 0)) := (hg4.block Q AU_1.out.lt (fun e => AU_1.out.sep e.symm)).trans AU_1.out.box
              have hS4 : Below Q w7 w4 := hS.trans ((Below.refl Q _).grown hg4 (Nat.le_of_lt AU_1.out.lt) (fun k hk => (AU_1.out.row.lt k hk).1))
              have REL := hidd (And.intro hau (HB.out.trans hbq))
              have TB4 := hidd T4
              obtain ⟨sa4, sc4, hsv, _⟩ := own_slice hown4
              subst hsv
              clear hau hbq T4 hown4 hg4 hw4
              show K _ w4
              refine hK.out _ _ hS4 (fun hS => ?_)
              clear hK K
              refine wpAnyH_take (i := 13) (oi := { dst := some 93, op := Op.fieldAddr 27 (Operand.tmp 10) 1, type := 0, pos := _, after := _, guard := none }) (v := .pointer (some ⟨Q, 1, none⟩)) rfl (by kernel_rfl) (by kernel_rfl) (by kernel_rfl) (fun _ _ _ h => h) (Or.inl ⟨by rfl, fun u hu => by go_simp⟩) hS ?_
              simp only [Act.put, List.setIfInBounds_toArray, List.set_cons_zero, List.set_cons_succ]
              refine wpAnyH_ready (rs := [14]) (by kernel_rfl) (by simp) (AllReadyH.cons (o := { dst := none, op := Op.store 25 (Operand.tmp 93) (Operand.tmp 92), type := 0, pos := _, after := _, guard := none }) rfl (fun K hK => ?_) AllReadyH.nil)
              have n0 : w4.cell? ⟨Q, 1, none⟩ = some (.slice ua j uc) := (cellOf TB4.out).trans rfl
              have nz : w4.frozen? ⟨Q, 1, none⟩ = false := by simp [World.frozen?, TB4.out]
              go_simp
              clear n0 nz
              have hS5 : Below Q w7 (w4.setCell ⟨Q, 1, none⟩ (.slice sa4 (j + 1) sc4)) := hS.setCell (p := ⟨Q, 1, none⟩) (Nat.le_refl _) _
              refine hK.out _ _ hS5 (fun hS => ?_)
              clear hK K
              refine wpAnyH_done (by kernel_rfl) ?_ _
              have MN2 : Hid ((∀ p ∈ ps.take (j + 1), p.es.length ≤ 6000) ∧ (0 < j + 1 → N ≤ 500)) := by
                refine ⟨fun p hp => ?_, fun _ => h5⟩
                rw [TK.out] at hp
                rcases List.mem_append.1 hp with hp | hp
                · exact MN.out.1 p hp
                · simp at hp; subst hp; exact h6
              have AU2 : Hid (AU Q nm (.slice sa4 (j + 1) sc4) (ps.take (j + 1)) (w4.setCell ⟨Q, 1, none⟩ (.slice sa4 (j + 1) sc4))) := by show AU _ _ _ _ _; rw [TK.out]; exact REL.out.1
              have BQ2 := hidd REL.out.2
              clear REL TB4
              go_wp2_with fail
              go_roundw
              case rel => exact ⟨j + 1, sa4, sc4, by omega, by go_num, BQ2.out, AU2.out, MN2.out⟩
              case measure => simp [intOf]; omega
            · go_simp
              have hb1 : Below wr.drew.heap.size wr.drew (wr.drew.alloc (.cells #[.int .i64 ar, .slice pa pes.length pc] 44)) := (Below.refl _ _).alloc (Nat.le_refl _) _
              have hN1 : Hid ((wr.drew.alloc (.cells #[.int .i64 ar, .slice pa pes.length pc] 44)).heap[wr.heap.size]? = some (.cells #[.int .i64 ar, .slice pa pes.length pc] 44 (0, 0))) := World.alloc_heap_new wr.drew _
              have hS1 := hS.trans (hb1.mono (Nat.le_of_lt AU_0.out.lt))
              change K _ (wr.drew.alloc (.cells #[.int .i64 ar, .slice pa pes.length pc] 44))
              generalize wr.drew.alloc (.cells #[.int .i64 ar, .slice pa pes.length pc] 44) = V1 at hb1 hN1 hS1 ⊢
              have AU_1 : Hid (AU Q nm (.slice ua j uc) (ps.take j) V1) := AU_0.out.below hb1
              have BW_1 : Hid (Below wr.heap.size wr V1) := BW_0.out.trans (hb1.mono BW_0.out.size)
              clear hb1
              refine hK.out _ _ hS1 (fun hS => ?_)
              clear hK K
              refine wpAnyH_ready (rs := [1]) (by kernel_rfl) (by simp) (AllReadyH.cons (o := { dst := some 81, op := Op.load 25 (Operand.tmp 80), type := 25, pos := _, after := _, guard := none }) rfl (fun K hK => ?_) AllReadyH.nil)
              have zt : V1.cell? ⟨Q, 1, none⟩ = some (.slice ua j uc) := (cellOf AU_1.out.box).trans rfl
              go_simp
              clear zt
              refine hK.out _ _ hS (fun hS => ?_)
              clear hK K
              refine wpAnyH_ready (rs := [12]) (by kernel_rfl) (by simp) (AllReadyH.cons (o := { dst := some 92, op := Op.call { callee := Callee.builtin Builtin.append, args := #[Operand.tmp 81, Operand.tmp 91], argTypes := #[25, 25] }, type := 25, pos := _, after := _, guard := none }) rfl (fun K hK => ?_) AllReadyH.nil)
              refine step_row rfl (.tmp 81) (.tmp 91) 25 rfl Q 44 i2 _ 2 32 Try.underlying25 linf lz0 lz1 lz2 rfl (by decide) (.slice ua j uc) j (flatP (ps.take j)) rfl (by have q := AU_1.out.row; rwa [HTL.out] at q) (some ⟨wr.heap.size, 0, none⟩) 1 1 (PE.mk ar pes pa pc).cells rfl rfl (Or.inr ⟨wr.heap.size, 0, rfl, fun q u hu => by rw [Nat.zero_add]; refine (cellOf hN1.out).trans ?_; rw [← hu]; simp [PE.cells]⟩) (by intro u hu; simp [PE.cells] at hu; rcases hu with rfl | rfl <;> rfl) (by unfold maxLen; omega) (by omega) (Nat.le_of_lt AU_1.out.lt) ?_
              intro uv2 w4 hown4 hg4 hw4
              obtain ⟨hau, hbq⟩ := AUr.out.push (p := PE.mk ar pes pa pc) BW_1.out (by rw [HTL.out]; exact hown4) hg4 hw4
              have T4 : w4.heap[Q]? = some (.cells #[.string nm, .slice ua j uc] 27 (0, 0)) := (hg4.block Q AU_1.out.lt (fun e => AU_1.out.sep e.symm)).trans AU_1.out.box
              have hS4 : Below Q w7 w4 := hS.trans ((Below.refl Q _).grown hg4 (Nat.le_of_lt AU_1.out.lt) (fun k hk => (AU_1.out.row.lt k hk).1))
              have REL := hidd (And.intro hau (HB.out.trans hbq))
              have TB4 := hidd T4
              obtain ⟨sa4, sc4, hsv, _⟩ := own_slice hown4
              subst hsv
              clear hau hbq T4 hown4 hg4 hw4
              show K _ w4
              refine hK.out _ _ hS4 (fun hS => ?_)
              clear hK K
              refine wpAnyH_take (i := 13) (oi := { dst := some 93, op := Op.fieldAddr 27 (Operand.tmp 10) 1, type := 0, pos := _, after := _, guard := none }) (v := .pointer (some ⟨Q, 1, none⟩)) rfl (by kernel_rfl) (by kernel_rfl) (by kernel_rfl) (fun _ _ _ h => h) (Or.inl ⟨by rfl, fun u hu => by go_simp⟩) hS ?_
              simp only [Act.put, List.setIfInBounds_toArray, List.set_cons_zero, List.set_cons_succ]
              refine wpAnyH_ready (rs := [14]) (by kernel_rfl) (by simp) (AllReadyH.cons (o := { dst := none, op := Op.store 25 (Operand.tmp 93) (Operand.tmp 92), type := 0, pos := _, after := _, guard := none }) rfl (fun K hK => ?_) AllReadyH.nil)
              have n0 : w4.cell? ⟨Q, 1, none⟩ = some (.slice ua j uc) := (cellOf TB4.out).trans rfl
              have nz : w4.frozen? ⟨Q, 1, none⟩ = false := by simp [World.frozen?, TB4.out]
              go_simp
              clear n0 nz
              have hS5 : Below Q w7 (w4.setCell ⟨Q, 1, none⟩ (.slice sa4 (j + 1) sc4)) := hS.setCell (p := ⟨Q, 1, none⟩) (Nat.le_refl _) _
              refine hK.out _ _ hS5 (fun hS => ?_)
              clear hK K
              refine wpAnyH_done (by kernel_rfl) ?_ _
              have MN2 : Hid ((∀ p ∈ ps.take (j + 1), p.es.length ≤ 6000) ∧ (0 < j + 1 → N ≤ 500)) := by
                refine ⟨fun p hp => ?_, fun _ => h5⟩
                rw [TK.out] at hp
                rcases List.mem_append.1 hp with hp | hp
                · exact MN.out.1 p hp
                · simp at hp; subst hp; exact h6
              have AU2 : Hid (AU Q nm (.slice sa4 (j + 1) sc4) (ps.take (j + 1)) (w4.setCell ⟨Q, 1, none⟩ (.slice sa4 (j + 1) sc4))) := by show AU _ _ _ _ _; rw [TK.out]; exact REL.out.1
              have BQ2 := hidd REL.out.2
              clear REL TB4
              go_wp2_with fail
              go_roundw
              case rel => exact ⟨j + 1, sa4, sc4, by omega, by go_num, BQ2.out, AU2.out, MN2.out⟩
              case measure => simp [intOf]; omega
        · obtain rfl : N = j := by omega
          have MF : Hid (muchP (protosOf l) = false) := by
            show _ = _
            rw [← PSM.out]
            have m1 := MN.out.1
            rw [← HNN.out, List.take_length] at m1
            unfold muchP
            rw [List.length_map, HNN.out]
            have m2 := MN.out.2 hN0
            simp only [Bool.or_eq_false_iff, decide_eq_false_iff_not, List.any_eq_false, decide_eq_true_eq, List.mem_map]
            refine ⟨by omega, ?_⟩
            rintro _ ⟨p, hp, rfl⟩
            have := m1 p hp
            simpa [PE.pro] using this
          have hr := HR.out
          rw [if_neg (by rw [MF.out]; simp)] at hr
          subst hr
          have ub1 := (HB.out.block _ huq).trans UB7.out
          have UBr := hidd ub1
          have v0 : wr.cell? ⟨Q, 0, none⟩ = some (.string nm) := (cellOf AUr.out.box).trans rfl
          have v1 : wr.cell? ⟨Q, 1, none⟩ = some (.slice ua N uc) := (cellOf AUr.out.box).trans rfl
          have n0 : wr.cell? ⟨w.heap.size + 1, 0, none⟩ = some (.string ⟨#[]⟩) := (cellOf UBr.out).trans rfl
          have n1 : wr.cell? ⟨w.heap.size + 1, 1, none⟩ = some (.slice none 0 0) := (cellOf UBr.out).trans rfl
          have nz : ∀ q, wr.frozen? ⟨w.heap.size + 1, q, none⟩ = false := fun q => by simp [World.frozen?, UBr.out]
          have END := hidd (set2 UBr.out (.string nm) (.slice ua N uc))
          have BE : Hid (Below w.heap.size w ((wr.setCell ⟨w.heap.size + 1, 0, none⟩ (.string nm)).setCell ⟨w.heap.size + 1, 1, none⟩ (.slice ua N uc))) := ((BL7.out.trans (HB.out.mono (by omega))).setCell (p := ⟨w.heap.size + 1, 0, none⟩) (by show w.heap.size ≤ w.heap.size + 1; omega) _).setCell (p := ⟨w.heap.size + 1, 1, none⟩) (by show w.heap.size ≤ w.heap.size + 1; omega) _
          have hke := keep2 wr (w.heap.size + 1) (.string nm) (.slice ua N uc)
          have TD : Hid (PnOk ((wr.setCell ⟨w.heap.size + 1, 0, none⟩ (.string nm)).setCell ⟨w.heap.size + 1, 1, none⟩ (.slice ua N uc)) (.slice ua N uc) ps) := by
            have hrow := AUr.out.row
            rw [← HNN.out, List.take_length, HNN.out] at hrow
            obtain ⟨ug, uc2, hu, huc, hQu, hul, _, hcl⟩ := own_at hrow hN0
            have hs := hke.size
            have hq7 := HQ.out
            have hs7 := HB.out.size
            refine ⟨ua, uc, by rw [HNN.out], ?_, Or.inr ⟨ug, by simp at hu; exact hu.1, by omega, fun q u hq => ?_⟩, fun p hp => (DAT.out.2.2.2 p hp).stay (fun b hb => (hke.block b (by omega) (by simpa using hb.2)).trans (HB.out.block b (by omega))) (fun b hb => by have := hb.1; omega)⟩
            · rw [HNN.out]; simp at hu; rw [hu.2]; exact huc
            · exact (World.cell?_of_block (a := ⟨ug, q, none⟩) (hke.block ug hul (by simp; omega))).trans (hcl q u hq)
          have PM := hidd PSM.out
          clear hke HR MF AUr MN PSM DAT
          go_wp2_with fail
          exact bodyPost_ret (ret8 END.out rfl rfl) rfl ⟨BE.out, nm, .slice ua N uc, ps, rfl, fun _ => rfl, fun h => absurd rfl h, PM.out, TD.out⟩
      
end Go.Proofs.Ytbbmdhkbndgdkaa
