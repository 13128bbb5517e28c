/- Chapter 10: the image of units. -/
import Derived.Test.YtdnbingddbakaaaDoorK34
namespace Go.Proofs.YtdnbingddbakaaaDoor
set_option linter.unusedVariables false
set_option linter.unusedSimpArgs false
open Go.RowKit

theorem ret15 {ts : Array Value} {W : World} {N : Nat} {x0 x1 x2 : Value} (h : W.heap[N]? = some (.cells #[x0, x1, x2] 27 (0, 0))) (h4 : ts[4]? = some (.pointer (some ⟨N, 0, none⟩))) :
    (results Tryd.f15 ts).run Tryd.prog W = .ok (.agg #[x0, x1, x2]) W := by
  have cc : ∀ q, W.cell? ⟨N, q, none⟩ = #[x0, x1, x2][q]? := fun q => by simp [World.cell?, h]
  have q0 := cc 0
  have q1 := cc 1
  have q2 := cc 2
  simp at q0 q1 q2
  simp [results, Tryd.results15, go_sem, h4, q0, q1, q2]
theorem img_start (w : World) (bv : Value) : IM w.heap.size (w.heap.size + 1) bv (.slice none 0 0) (.slice none 0 0) [] [] ((w.alloc (.cells #[.slice none 0 0, .slice none 0 0, .slice none 0 0] 27)).alloc (.cells #[bv, .slice none 0 0, .slice none 0 0] 27)) ∧
    ((w.alloc (.cells #[.slice none 0 0, .slice none 0 0, .slice none 0 0] 27)).alloc (.cells #[bv, .slice none 0 0, .slice none 0 0] 27)).heap[w.heap.size]? = some (.cells #[.slice none 0 0, .slice none 0 0, .slice none 0 0] 27 (0, 0)) ∧
    Below w.heap.size w ((w.alloc (.cells #[.slice none 0 0, .slice none 0 0, .slice none 0 0] 27)).alloc (.cells #[bv, .slice none 0 0, .slice none 0 0] 27)) := by
  have h1 := World.alloc_heap_new w (.cells #[.slice none 0 0, .slice none 0 0, .slice none 0 0] 27)
  have h2 := World.alloc_heap_new (w.alloc (.cells #[.slice none 0 0, .slice none 0 0, .slice none 0 0] 27)) (.cells #[bv, .slice none 0 0, .slice none 0 0] 27)
  refine ⟨⟨by simpa using h2, by omega, World.ownsRow_nil _ _ _ _, World.ownsRow_nil _ _ _ _, by simp [Value.ownBlock], by simp [Value.ownBlock], by simp [Value.ownBlock], by simp⟩, ?_, ((Below.refl _ _).alloc (Nat.le_refl _) _).alloc (by simp) _⟩
  rw [Below.heap_alloc _ _ _ (by simp)]
  exact h1
theorem imgS_len (gs : List Gl) : ∀ (us : List Un) (j : Nat), (imgS gs (us.take j)).2.length ≤ j
  | us, 0 => by simp [imgS]
  | us, j + 1 => by
    cases h : us[j]? with
    | none =>
      rw [List.take_add_one, h]
      simp only [Option.toList_none, List.append_nil]
      exact Nat.le_trans (imgS_len gs us j) (Nat.le_succ _)
    | some u =>
      rw [imgS_next h]
      have := imgS_len gs us j
      simp [imgStep]
      omega
theorem cell_z {l : List Value} {r : List Value} {o : Nat} (h : l.length = o) (i : Nat) (hi : i < 11) {v : Value} (hv : zI.cells[i]? = some v) : (l ++ (zI.cells ++ r)).toArray[o + i]? = some v := by
  subst h
  simp only [List.getElem?_toArray]
  rw [List.getElem?_append_right (by omega), Nat.add_sub_cancel_left, List.getElem?_append_left (by rw [IE.len]; exact hi)]
  exact hv
theorem placeI_small (gs : List Gl) (st : Nat) {x : In} (h4 : x.own.size ≤ maxLen) (h7 : x.quote.name.size ≤ maxLen) : (placeI gs st x).lib.size ≤ maxLen ∧ (placeI gs st x).own.size ≤ maxLen ∧ (placeI gs st x).quote.name.size ≤ maxLen := by
  have hq : (bareQ x.quote).name.size ≤ maxLen := by
    cases hx : x.quote with
    | mk k n nm s lb ks =>
      rw [hx] at h7
      rw [bareQ]
      simp only
      split
      · exact h7
      · exact Nat.zero_le _
  unfold placeI
  (repeat' split) <;> first | exact ⟨Nat.zero_le _, Nat.zero_le _, Nat.zero_le _⟩ | exact ⟨Nat.zero_le _, Nat.zero_le _, hq⟩ | exact ⟨Nat.zero_le _, h4, Nat.zero_le _⟩
theorem three_at0 {C : Nat} {u : World} {z0 z1 z2 : Value} {t : TypeId} (h : u.heap[C]? = some (.cells #[z0, z1, z2] t (0, 0))) (x : Value) : (u.setCell ⟨C, 0, none⟩ x).heap[C]? = some (.cells #[x, z1, z2] t (0, 0)) := by
  have h1 := heap_setCell_same u C 0 _ t x h
  rw [h1]; rfl
/-- What is told of an image. -/
def ToldI (gs : List Gl) (us : List Un) (bv : Value) (w : World) (e : Ending) (w' : World) : Prop :=
  ∃ pv sv ps ss, e = .returned (.agg #[bv, pv, sv]) ∧ Below w.heap.size w w' ∧ w'.ownsRow w.heap.size 46 2 pv ps.length (flatP ps) ∧ w'.ownsRow w.heap.size 3 1 sv ss.length (ints ss) ∧ (ps.map PE.pro, ss) = imgS gs us ∧ ∀ p ∈ ps, p.Ok (fun b => w.heap.size ≤ b ∧ b < w'.heap.size) w'
set_option maxRecDepth 100000 in
set_option maxHeartbeats 12800000 in
theorem image_any (B0 t m : Nat) (gs : List Gl) (bv : Value) (us : List Un) (a : Option Addr) (cap : Nat) (w : World) (hT : TB B0 t m gs bv w) (hl : UL B0 w a us) (hn : us.length ≤ 40) (hc : us.length ≤ cap) (hr : ∀ u ∈ us, Right u.1 u.2) :
    Calls Tryd.prog 15 #[.pointer (some ⟨t, 0, none⟩), .slice a us.length cap] w (ToldI gs us bv w) := by
  obtain ⟨ba, bc, hbv, hbc⟩ := hT.slice
  subst hbv
  obtain ⟨n0, hn0⟩ : ∃ n, n = gs.length := ⟨_, rfl⟩
  rw [← hn0] at hT hbc ⊢
  have hB0 : B0 ≤ w.heap.size := Nat.le_trans hT.bt (Nat.le_of_lt (Array.getElem?_eq_some_iff.1 hT.tb).1)
  have IS := hidd (img_start w (.slice ba n0 bc))
  have t0 : w.cell? ⟨t, 0, none⟩ = some (.slice ba n0 bc) := (cellO hT.tb).trans rfl
  have htw : t < w.heap.size := (Array.getElem?_eq_some_iff.1 hT.tb).1
  have tz := ((Below.refl w.heap.size w).alloc (Nat.le_refl _) (.cells #[.slice none 0 0, .slice none 0 0, .slice none 0 0] 27)).cell (p := ⟨t, 0, none⟩) htw
  rw [t0] at tz
  obtain ⟨n, hnn⟩ : ∃ n, n = us.length := ⟨_, rfl⟩
  have HN := hidd hnn
  have HT := hidd hT
  have HL := hidd hl
  have HR0 := hidd hr
  rw [← hnn] at hn hc ⊢
  have TI : Hid (ToldI gs us (.slice ba n0 bc) w = fun e w' => ToldI gs us (.slice ba n0 bc) w e w') := rfl
  clear hnn hT hl hr hn0 t0
  go_enter Tryd.func15, Tryd.ntmps15
  go_upto_region 2 with fail
  clear tz
  obtain ⟨N0, hN0⟩ : ∃ u, u = w.heap.size := ⟨_, rfl⟩
  obtain ⟨N1, hN1⟩ : ∃ u, u = w.heap.size + 1 := ⟨_, rfl⟩
  obtain ⟨B, hB⟩ : ∃ u, u = w.heap.size := ⟨_, rfl⟩
  have HBW := hidd hB
  have h01 : N0 ≠ N1 := by omega
  have HB0N : Hid (B ≤ N0 ∧ N0 < N1) := ⟨by omega, by omega⟩
  have IS : Hid (IM B N1 (.slice ba n0 bc) (.slice none 0 0) (.slice none 0 0) [] [] ((w.alloc (.cells #[.slice none 0 0, .slice none 0 0, .slice none 0 0] 27)).alloc (.cells #[.slice ba n0 bc, .slice none 0 0, .slice none 0 0] 27)) ∧ ((w.alloc (.cells #[.slice none 0 0, .slice none 0 0, .slice none 0 0] 27)).alloc (.cells #[.slice ba n0 bc, .slice none 0 0, .slice none 0 0] 27)).heap[N0]? = some (.cells #[.slice none 0 0, .slice none 0 0, .slice none 0 0] 27 (0, 0)) ∧ Below B w ((w.alloc (.cells #[.slice none 0 0, .slice none 0 0, .slice none 0 0] 27)).alloc (.cells #[.slice ba n0 bc, .slice none 0 0, .slice none 0 0] 27))) := by
    rw [hN0, hN1, hB]; exact IS
  generalize (w.alloc (.cells #[.slice none 0 0, .slice none 0 0, .slice none 0 0] 27)).alloc (.cells #[.slice ba n0 bc, .slice none 0 0, .slice none 0 0] 27) = V at IS ⊢
  rw [← hN1, ← hN0]
  clear hN0 hN1 hB
  go_wp2_with fail
  go_loopw [20] (fun i wr => ∃ j : Nat, j ≤ n ∧ i = .int .i64 j ∧ Hid (∃ pv sv ps ss, IM B N1 (.slice ba n0 bc) pv sv ps ss wr ∧ (ps.map PE.pro, ss) = imgS gs (us.take j) ∧ ps.length ≤ j * 500 ∧ wr.heap[N0]? = some (.cells #[.slice none 0 0, .slice none 0 0, .slice none 0 0] 27 (0, 0)) ∧ ¬ OG N1 pv sv N0 ∧ Below B w wr)) (fun i _ => n - (intOf i).toNat)
  case atStart => exact ⟨0, Nat.zero_le _, rfl, _, _, [], [], IS.out.1, rfl, Nat.zero_le _, IS.out.2.1, by simp [OG, Value.ownBlock, h01], IS.out.2.2⟩
  case round =>
  obtain ⟨j, hj, rfl, HR⟩ := hrel
  obtain ⟨pv, sv, ps0, ss, HR⟩ := HR.out
  have HR := hidd HR
  by_cases hlt : j < n
  · have hjU : j < us.length := by rw [← HN.out]; exact hlt
    obtain ⟨u, hu⟩ : ∃ u, us[j]? = some u := ⟨_, List.getElem?_eq_getElem hjU⟩
    have HU := hidd hu
    have RT := hidd (HR0.out u (List.mem_of_getElem? hu))
    obtain ⟨ab, ao, rfl, hab, hall⟩ := HL.out.at hu
    obtain ⟨pa, pc, p0, p1, hpc, hsz, hpl⟩ := hall j _ hu
    have HPL := hidd hpl
    have habw : ab < w.heap.size := Nat.lt_of_lt_of_le hab hB0
    have q0 := (HR.out.2.2.2.2.2.cell (p := ⟨ab, ao + j * 2, none⟩) (by rw [HBW.out]; exact habw)).trans p0
    have q1 := (HR.out.2.2.2.2.2.cell (p := ⟨ab, ao + j * 2 + 1, none⟩) (by rw [HBW.out]; exact habw)).trans p1
    obtain ⟨pn, hpn⟩ : ∃ n, n = u.2.length := ⟨_, rfl⟩
    have HPN := hidd hpn
    rw [← hpn] at q1 hpc
    have hpn5 : pn ≤ 500 := by rw [hpn]; exact RT.out.n500
    clear hpn p0 p1 hall hu hpl
    have hba := (Below.refl wr.heap.size wr).alloc (Nat.le_refl _) (.cells #[.string u.1, .slice pa pn pc] 37)
    have XB := hidd (World.alloc_heap_new wr (.cells #[.string u.1, .slice pa pn pc] 37))
    have hxo : ¬ OG N1 pv sv wr.heap.size := fun e => by have := (HR.out.1.oglt e).2; omega
    have HI : Hid (IM B N1 (.slice ba n0 bc) pv sv ps0 ss (wr.alloc (.cells #[.string u.1, .slice pa pn pc] 37)) ∧ (wr.alloc (.cells #[.string u.1, .slice pa pn pc] 37)).heap[N0]? = some (.cells #[.slice none 0 0, .slice none 0 0, .slice none 0 0] 27 (0, 0)) ∧ Below B w (wr.alloc (.cells #[.string u.1, .slice pa pn pc] 37))) := ⟨HR.out.1.below hba, (hba.block _ (Array.getElem?_eq_some_iff.1 HR.out.2.2.2.1).1).trans HR.out.2.2.2.1, HR.out.2.2.2.2.2.trans (hba.mono HR.out.1.ble)⟩
    have HO : Hid (¬ OG N1 pv sv N0 ∧ ¬ OG N1 pv sv wr.heap.size) := ⟨HR.out.2.2.2.2.1, hxo⟩
    clear hba hxo
    go_upto_region 5 with fail
    clear q0 q1
    generalize wr.alloc (.cells #[.string u.1, .slice pa pn pc] 37) = V1 at XB HI ⊢
    obtain ⟨xb, hxb⟩ : ∃ u, u = wr.heap.size := ⟨_, rfl⟩
    rw [← hxb] at XB HO ⊢
    clear hxb
    obtain ⟨va, vc, hpv, hvc⟩ := own_slice HI.out.1.pr
    obtain ⟨sa, sc, hsv, hsc⟩ := own_slice HI.out.1.sr
    subst hpv hsv
    obtain ⟨st, hst⟩ : ∃ n, n = ps0.length := ⟨_, rfl⟩
    have HST := hidd hst
    have hst2 : st ≤ 20000 := by have := HR.out.2.2.1; omega
    have z1 : V1.cell? ⟨N1, 1, none⟩ = some (.slice va st vc) := by rw [hst]; exact (cellO HI.out.1.box).trans rfl
    obtain ⟨sn, hsn⟩ : ∃ n, n = ss.length := ⟨_, rfl⟩
    have HSN := hidd hsn
    have z2 : V1.cell? ⟨N1, 2, none⟩ = some (.slice sa sn sc) := by rw [hsn]; exact (cellO HI.out.1.box).trans rfl
    clear hst hsn hvc hsc
    obtain ⟨i0, hinf, hz0, hz1, hz2⟩ := info_parts infoInt
    have hb2 := (Below.refl V1.heap.size V1).alloc (Nat.le_refl _) (.cells #[.int .i64 st] 3)
    have HI2 : Hid (IM B N1 (.slice ba n0 bc) (.slice va ps0.length vc) (.slice sa ss.length sc) ps0 ss (V1.alloc (.cells #[.int .i64 st] 3)) ∧ (V1.alloc (.cells #[.int .i64 st] 3)).heap[N0]? = some (.cells #[.slice none 0 0, .slice none 0 0, .slice none 0 0] 27 (0, 0)) ∧ (V1.alloc (.cells #[.int .i64 st] 3)).heap[xb]? = some (.cells #[.string u.1, .slice pa pn pc] 37 (0, 0)) ∧ Below B w (V1.alloc (.cells #[.int .i64 st] 3))) := ⟨HI.out.1.below hb2, (hb2.block _ (Array.getElem?_eq_some_iff.1 HI.out.2.1).1).trans HI.out.2.1, (hb2.block _ (Array.getElem?_eq_some_iff.1 XB.out).1).trans XB.out, HI.out.2.2.trans (hb2.mono HI.out.1.ble)⟩
    have OWN : Hid ((V1.alloc (.cells #[.int .i64 st] 3)).ownsRow B 3 1 (.slice sa sn sc) sn (ints ss)) := by rw [HSN.out]; exact HI2.out.1.sr
    have hsl : sn ≤ 40 := by
      have h1 := HR.out.2.1
      have h2 : ss.length ≤ j := by
        have h3 : ss = (imgS gs (us.take j)).2 := congrArg Prod.snd h1
        rw [h3]
        exact imgS_len gs us j
      rw [HSN.out]; omega
    have HNEW := hidd (World.alloc_heap_new V1 (.cells #[.int .i64 st] 3))
    clear hb2
    go_wp2_with (at_builtin; refine wpList_append_where rfl _ _ 25 rfl B 3 i0 _ 1 8 Tryd.underlying25 hinf hz0 hz1 hz2 rfl (by decide) (.slice sa sn sc) sn (ints ss) rfl (by exact OWN.out) ⟨V1.heap.size, 0, none⟩ 1 1 [.int .i64 st] rfl rfl ?c1 ?c2 (by decide) ?c3 ?c4 ?c5 ?_)
    case c1 =>
      intro q v hq
      have hadd : (⟨V1.heap.size, 0, none⟩ : Addr).add q = ⟨V1.heap.size, q, none⟩ := by unfold Addr.add; split <;> simp_all
      rw [hadd, cellO HNEW.out]
      simpa using hq
    case c2 =>
      intro v hv
      simp at hv
      subst hv
      rfl
    case c3 => unfold maxLen; omega
    case c4 => omega
    case c5 => exact HI2.out.1.ble
    intro sv' W4 hown4 hg4 hw4
    rw [HSN.out] at hown4
    have N14 := (gk hg4 HI2.out.1.lt (by rw [HSN.out]; exact HI2.out.1.s2)).trans HI2.out.1.box
    have STT := HI2.out.1.start (sv' := sv') (s := (st : Int)) hown4 (by rw [HSN.out] at hg4; exact hg4) (by rw [HSN.out] at hw4; simpa using hw4)
    obtain ⟨sa', sc', hsv', _⟩ := own_slice hown4
    subst hsv'
    obtain ⟨sn', hsn'⟩ : ∃ n, n = ss.length + 1 := ⟨_, rfl⟩
    rw [← hsn'] at STT ⊢
    have y2 : W4.cell? ⟨N1, 2, none⟩ = some (.slice sa ss.length sc) := (cellO N14).trans rfl
    have yz := looseO (q := 2) N14
    have HI3 : Hid (IM B N1 (.slice ba n0 bc) (.slice va ps0.length vc) (.slice sa' sn' sc') ps0 (ss ++ [(st : Int)]) (W4.setCell ⟨N1, 2, none⟩ (.slice sa' sn' sc')) ∧ (W4.setCell ⟨N1, 2, none⟩ (.slice sa' sn' sc')).heap[N0]? = some (.cells #[.slice none 0 0, .slice none 0 0, .slice none 0 0] 27 (0, 0)) ∧ (W4.setCell ⟨N1, 2, none⟩ (.slice sa' sn' sc')).heap[xb]? = some (.cells #[.string u.1, .slice pa pn pc] 37 (0, 0)) ∧ ¬ OG N1 (.slice va ps0.length vc) (.slice sa' sn' sc') N0 ∧ ¬ OG N1 (.slice va ps0.length vc) (.slice sa' sn' sc') xb ∧ Below B w (W4.setCell ⟨N1, 2, none⟩ (.slice sa' sn' sc'))) :=
      ⟨STT.1, (STT.2.keep _ (Array.getElem?_eq_some_iff.1 HI2.out.2.1).1 HO.out.1).trans HI2.out.2.1, (STT.2.keep _ (Array.getElem?_eq_some_iff.1 HI2.out.2.2.1).1 HO.out.2).trans HI2.out.2.2.1, fun e => HO.out.1 (STT.2.own _ (Array.getElem?_eq_some_iff.1 HI2.out.2.1).1 e), fun e => HO.out.2 (STT.2.own _ (Array.getElem?_eq_some_iff.1 HI2.out.2.2.1).1 e), HI2.out.2.2.2.trans STT.2.low⟩
    clear STT hown4 hg4 hw4 N14 HI2 HI XB HNEW OWN hinf hz0 hz1 hz2 z1 z2 hsn'
    go_upto_region 7 with fail
    clear y2 yz
    generalize W4.setCell ⟨N1, 2, none⟩ (.slice sa' sn' sc') = V3 at HI3 ⊢
    have x1 : V3.cell? ⟨xb, 1, none⟩ = some (.slice pa pn pc) := (cellO HI3.out.2.2.1).trans rfl
    go_wp2_with fail
    clear x1
    go_loopw [36] (fun i wq => ∃ q : Nat, q ≤ pn ∧ i = .int .i64 q ∧ Hid (∃ pv sv qs, IM B N1 (.slice ba n0 bc) pv sv (ps0 ++ qs) (ss ++ [(st : Int)]) wq ∧ qs.map PE.pro = (u.2.take q).map (placeP gs st) ∧ wq.heap[N0]? = some (.cells #[.slice none 0 0, .slice none 0 0, .slice none 0 0] 27 (0, 0)) ∧ wq.heap[xb]? = some (.cells #[.string u.1, .slice pa pn pc] 37 (0, 0)) ∧ ¬ OG N1 pv sv N0 ∧ ¬ OG N1 pv sv xb ∧ Below B w wq)) (fun i _ => pn - (intOf i).toNat)
    case atStart => exact ⟨0, Nat.zero_le _, rfl, _, _, [], by simpa using HI3.out.1, by simp, HI3.out.2⟩
    case round =>
    obtain ⟨q, hq, rfl, HQ⟩ := hrel
    obtain ⟨pv, sv, qs, HQ⟩ := HQ.out
    have HQ := hidd HQ
    by_cases hql : q < pn
    · have hqP : q < u.2.length := by rw [← HPN.out]; exact hql
      obtain ⟨P, hP⟩ : ∃ P, u.2[q]? = some P := ⟨_, List.getElem?_eq_getElem hqP⟩
      have HP := hidd hP
      have HPM := hidd (List.mem_of_getElem? hP)
      obtain ⟨pb, po, rfl, hpb, hallp⟩ := HPL.out.at hP
      obtain ⟨ca, cc, s0, s1, hcc, hcl⟩ := hallp q _ hP
      have HCL := hidd hcl
      have hpbB : pb < B := by rw [HBW.out]; exact Nat.lt_of_lt_of_le hpb hB0
      have e0 := (HQ.out.2.2.2.2.2.2.cell (p := ⟨pb, po + q * 2, none⟩) hpbB).trans s0
      have e1 := (HQ.out.2.2.2.2.2.2.cell (p := ⟨pb, po + q * 2 + 1, none⟩) hpbB).trans s1
      obtain ⟨cn, hcn⟩ : ∃ n, n = P.code.length := ⟨_, rfl⟩
      have HCN := hidd hcn
      have hc6 : cn ≤ 6000 := by rw [hcn]; exact RT.out.c6 P HPM.out
      rw [← hcn] at e1 hcc
      clear hcn s0 s1 hcl hallp hP HI3
      have hba := (Below.refl wr.heap.size wr).alloc (Nat.le_refl _) (.cells #[.int .i64 P.args, .slice ca cn cc] 46)
      have hbc2 := hba.alloc (by simp) (.cells (flatI (List.replicate cn zI)).toArray 51)
      have PBX0 := World.alloc_heap_new wr (.cells #[.int .i64 P.args, .slice ca cn cc] 46)
      have CBX0 := World.alloc_heap_new (wr.alloc (.cells #[.int .i64 P.args, .slice ca cn cc] 46)) (.cells (flatI (List.replicate cn zI)).toArray 51)
      have MK := make_code cn (by omega) (wr.alloc (.cells #[.int .i64 P.args, .slice ca cn cc] 46))
      have f1 : (wr.alloc (.cells #[.int .i64 P.args, .slice ca cn cc] 46)).cell? ⟨wr.heap.size, 1, none⟩ = some (.slice ca cn cc) := (cellO PBX0).trans rfl
      have HV : Hid (IM B N1 (.slice ba n0 bc) pv sv (ps0 ++ qs) (ss ++ [(st : Int)]) ((wr.alloc (.cells #[.int .i64 P.args, .slice ca cn cc] 46)).alloc (.cells (flatI (List.replicate cn zI)).toArray 51)) ∧ ((wr.alloc (.cells #[.int .i64 P.args, .slice ca cn cc] 46)).alloc (.cells (flatI (List.replicate cn zI)).toArray 51)).heap[N0]? = some (.cells #[.slice none 0 0, .slice none 0 0, .slice none 0 0] 27 (0, 0)) ∧ ((wr.alloc (.cells #[.int .i64 P.args, .slice ca cn cc] 46)).alloc (.cells (flatI (List.replicate cn zI)).toArray 51)).heap[xb]? = some (.cells #[.string u.1, .slice (some ⟨pb, po, none⟩) pn pc] 37 (0, 0)) ∧ Below B w ((wr.alloc (.cells #[.int .i64 P.args, .slice ca cn cc] 46)).alloc (.cells (flatI (List.replicate cn zI)).toArray 51)) ∧ ((wr.alloc (.cells #[.int .i64 P.args, .slice ca cn cc] 46)).alloc (.cells (flatI (List.replicate cn zI)).toArray 51)).heap[wr.heap.size]? = some (.cells #[.int .i64 P.args, .slice ca cn cc] 46 (0, 0)) ∧ ((wr.alloc (.cells #[.int .i64 P.args, .slice ca cn cc] 46)).alloc (.cells (flatI (List.replicate cn zI)).toArray 51)).heap[wr.heap.size + 1]? = some (.cells (flatI (List.replicate cn zI)).toArray 51 (0, 0))) :=
        ⟨HQ.out.1.below hbc2, (hbc2.block _ (Array.getElem?_eq_some_iff.1 HQ.out.2.2.1).1).trans HQ.out.2.2.1, (hbc2.block _ (Array.getElem?_eq_some_iff.1 HQ.out.2.2.2.1).1).trans HQ.out.2.2.2.1, HQ.out.2.2.2.2.2.2.trans (hbc2.mono HQ.out.1.ble), (Below.heap_alloc _ _ _ (by simp)).trans PBX0, by simpa using CBX0⟩
      have HOQ : Hid ((¬ OG N1 pv sv wr.heap.size) ∧ ¬ OG N1 pv sv (wr.heap.size + 1)) := ⟨fun e => by have := (HQ.out.1.oglt e).2; omega, fun e => by have := (HQ.out.1.oglt e).2; omega⟩
      have HBC := hidd hbc2
      clear hba hbc2 PBX0 CBX0
      go_upto_region 11 with fail
      clear MK f1 e0 e1
      generalize (wr.alloc (.cells #[.int .i64 P.args, .slice ca cn cc] 46)).alloc (.cells (flatI (List.replicate cn zI)).toArray 51) = V5 at HV HBC ⊢
      obtain ⟨pbx, hpbx⟩ : ∃ n, n = wr.heap.size := ⟨_, rfl⟩
      obtain ⟨cb, hcb⟩ : ∃ n, n = wr.heap.size + 1 := ⟨_, rfl⟩
      have hpc2 : pbx ≠ cb := by omega
      have hBcb : B ≤ cb := by have := HQ.out.1.ble; omega
      rw [← hcb, ← hpbx] at HV HOQ
      have HQV : Hid (∀ W, Keep cb V5 W → IM B N1 (.slice ba n0 bc) pv sv (ps0 ++ qs) (ss ++ [(st : Int)]) W ∧ W.heap[N0]? = some (.cells #[.slice none 0 0, .slice none 0 0, .slice none 0 0] 27 (0, 0)) ∧ W.heap[xb]? = some (.cells #[.string u.1, .slice (some ⟨pb, po, none⟩) pn pc] 37 (0, 0)) ∧ W.heap[pbx]? = some (.cells #[.int .i64 P.args, .slice ca cn cc] 46 (0, 0)) ∧ Below B w W) := by
        intro W hW
        have hk : ∀ b, b < wr.heap.size → W.heap[b]? = wr.heap[b]? := fun b hb => (hW.block b (Nat.lt_of_lt_of_le hb HBC.out.size) (by simp; omega)).trans (HBC.out.block b hb)
        refine ⟨HQ.out.1.keep hk (Nat.le_trans HBC.out.size hW.size), (hk _ (Array.getElem?_eq_some_iff.1 HQ.out.2.2.1).1).trans HQ.out.2.2.1, (hk _ (Array.getElem?_eq_some_iff.1 HQ.out.2.2.2.1).1).trans HQ.out.2.2.2.1, (hW.block _ (Array.getElem?_eq_some_iff.1 HV.out.2.2.2.2.1).1 (by simp; omega)).trans HV.out.2.2.2.2.1, ?_⟩
        exact HV.out.2.2.2.1.trans (hW.toBelow hBcb HV.out.1.ble)
      have hN1cb : N1 < cb := by have := HQ.out.1.lt; omega
      have hOQ : ¬ OG N1 pv sv N0 ∧ ¬ OG N1 pv sv xb := ⟨HQ.out.2.2.2.2.1, HQ.out.2.2.2.2.2.1⟩
      have HOX := hidd hOQ
      have HQM := hidd HQ.out.2.1
      rw [← hcb, ← hpbx]
      clear hcb hpbx HBC hOQ
      have f2 : V5.cell? ⟨pbx, 1, none⟩ = some (.slice ca cn cc) := (cellO HV.out.2.2.2.2.1).trans rfl
      go_wp2_with fail
      clear f2
      go_loopw [47] (fun i wz => ∃ k : Nat, k ≤ cn ∧ i = .int .i64 k ∧ Hid (∃ es : List IE, es.length = k ∧ es.map IE.i = (P.code.take k).map (placeI gs st) ∧ wz.heap[cb]? = some (.cells (flatI (es ++ List.replicate (cn - k) zI)).toArray 51 (0, 0)) ∧ Keep cb V5 wz ∧ ∀ e ∈ es, e.Ok (fun b => V5.heap.size ≤ b ∧ b < wz.heap.size) wz)) (fun i _ => cn - (intOf i).toNat)
      case atStart => exact ⟨0, Nat.zero_le _, rfl, [], rfl, by simp, by simpa using HV.out.2.2.2.2.2, Keep.refl _ _, by simp⟩
      case round =>
      obtain ⟨k, hk, rfl, HK⟩ := hrel
      obtain ⟨es, HK⟩ := HK.out
      have HK := hidd HK
      by_cases hkl : k < cn
      · have hkc : k < P.code.length := by rw [← HCN.out]; exact hkl
        obtain ⟨x, hx⟩ : ∃ x, P.code[k]? = some x := ⟨_, List.getElem?_eq_getElem hkc⟩
        have HX := hidd hx
        obtain ⟨cb0, co, rfl, hcb0, hins⟩ : ∃ b o, ca = some ⟨b, o, none⟩ ∧ b < B0 ∧ ∀ i x, P.code[i]? = some x → ∃ qa qc, IL B0 w b (o + i * 11) x qa qc := by
          rcases HCL.out with h | h
          · rw [h] at hkc; simp at hkc
          · exact h
        obtain ⟨xa, xc, hil⟩ := hins k x hx
        have bwz : Below w.heap.size w wr := by have := HV.out.2.2.2.1.trans (HK.out.2.2.2.1.toBelow hBcb HV.out.1.ble); rwa [HBW.out] at this
        have hpl := RT.out.place HPM.out (List.mem_of_getElem? hx)
        have PLC := hidd (placed_any B0 t m gs (.slice ba n0 bc) x cb0 (co + k * 11) st xa xc wr (hil.below hcb0 (bwz.mono hB0)) hcb0 (HT.out.below bwz) hpl.1 hpl.2.1 hpl.2.2.1 hpl.2.2.2 (by omega))
        have HPS := hidd (placeI_small gs st hil.l4 hil.l7)
        have f3 : wr.cell? ⟨pbx, 1, none⟩ = some (.slice (some ⟨cb0, co, none⟩) cn cc) := (cellO ((HK.out.2.2.2.1.block _ (Array.getElem?_eq_some_iff.1 HV.out.2.2.2.2.1).1 (by simpa using hpc2)).trans HV.out.2.2.2.2.1)).trans rfl
        obtain ⟨X, hX⟩ : ∃ X, X = placeI gs st x := ⟨_, rfl⟩
        rw [← hX] at PLC HPS
        have HXX := hidd hX
        clear hil hins hpl hX bwz hx
        go_wp2_with fail
        refine PLC.out.mono ?_
        rintro e W1 ⟨qa, qc, rfl, hb1, hqc, f, hd⟩
        unfold iv ic
        have HLEN : Hid ((flatI es).length = k * 11) := hidd (by rw [flatI_len, HK.out.1])
        have CBW : Hid (W1.heap[cb]? = some (.cells (flatI (es ++ List.replicate (cn - k) zI)).toArray 51 (0, 0))) := hidd ((hb1.block _ (Array.getElem?_eq_some_iff.1 HK.out.2.2.1).1).trans HK.out.2.2.1)
        have hck : cn - k = (cn - (k + 1)) + 1 := by omega
        rw [hck, List.replicate_succ, flatI_append, flatI_cons] at CBW
        have HCK := hidd hck
        clear hck
        have g0 : W1.cell? ⟨cb, k * 11, none⟩ = some (.int .i64 0) := by rw [cellO CBW.out]; exact cell_z HLEN.out 0 (by decide) rfl
        have g1 : W1.cell? ⟨cb, k * 11 + 1, none⟩ = some (.int .i64 0) := by rw [cellO CBW.out]; exact cell_z HLEN.out 1 (by decide) rfl
        have g2 : W1.cell? ⟨cb, k * 11 + 2, none⟩ = some (.int .i64 0) := by rw [cellO CBW.out]; exact cell_z HLEN.out 2 (by decide) rfl
        have g3 : W1.cell? ⟨cb, k * 11 + 3, none⟩ = some (.string ⟨#[]⟩) := by rw [cellO CBW.out]; exact cell_z HLEN.out 3 (by decide) rfl
        have g4 : W1.cell? ⟨cb, k * 11 + 4, none⟩ = some (.string ⟨#[]⟩) := by rw [cellO CBW.out]; exact cell_z HLEN.out 4 (by decide) rfl
        have g5 : W1.cell? ⟨cb, k * 11 + 5, none⟩ = some (.int .i64 0) := by rw [cellO CBW.out]; exact cell_z HLEN.out 5 (by decide) rfl
        have g6 : W1.cell? ⟨cb, k * 11 + 6, none⟩ = some (.int .i64 0) := by rw [cellO CBW.out]; exact cell_z HLEN.out 6 (by decide) rfl
        have g7 : W1.cell? ⟨cb, k * 11 + 7, none⟩ = some (.string ⟨#[]⟩) := by rw [cellO CBW.out]; exact cell_z HLEN.out 7 (by decide) rfl
        have g8 : W1.cell? ⟨cb, k * 11 + 8, none⟩ = some (.int .i64 0) := by rw [cellO CBW.out]; exact cell_z HLEN.out 8 (by decide) rfl
        have g9 : W1.cell? ⟨cb, k * 11 + 9, none⟩ = some (.int .i64 0) := by rw [cellO CBW.out]; exact cell_z HLEN.out 9 (by decide) rfl
        have g10 : W1.cell? ⟨cb, k * 11 + 10, none⟩ = some (.slice none 0 0) := by rw [cellO CBW.out]; exact cell_z HLEN.out 10 (by decide) rfl
        have gz : ∀ q, W1.frozen? ⟨cb, q, none⟩ = false := fun q => looseO CBW.out
        have CB2 : W1.heap[cb]? = some (.cells (flatI es ++ ([.int .i64 0, .int .i64 0, .int .i64 0, .string ⟨#[]⟩, .string ⟨#[]⟩, .int .i64 0, .int .i64 0, .string ⟨#[]⟩, .int .i64 0, .int .i64 0, .slice none 0 0] : List Value) ++ flatI (List.replicate (cn - (k + 1)) zI)).toArray 51 (0, 0)) := by rw [List.append_assoc]; exact CBW.out
        have END0 := fillAt_heap CB2 (.int .i64 X.op) (.int .i64 X.a) (.int .i64 X.n) (.string X.lib) (.string X.own) (.int .i64 X.quote.kind) (.int .i64 X.quote.n) (.string X.quote.name) (.int .i64 X.quote.stamp) (.int .i64 X.quote.lib) (.slice qa X.quote.kids.length qc)
        rw [HLEN.out] at END0
        have END := hidd END0
        have FK := hidd (fillAt_keep W1 cb (k * 11) (.int .i64 X.op) (.int .i64 X.a) (.int .i64 X.n) (.string X.lib) (.string X.own) (.int .i64 X.quote.kind) (.int .i64 X.quote.n) (.string X.quote.name) (.int .i64 X.quote.stamp) (.int .i64 X.quote.lib) (.slice qa X.quote.kids.length qc))
        have HB1 := hidd hb1
        have HNE := hidd (show IE.Ok (fun b => wr.heap.size ≤ b ∧ b < W1.heap.size) W1 ⟨X, qa, qc⟩ from ⟨HPS.out.1, HPS.out.2.1, HPS.out.2.2, hqc, f, hd⟩)
        have hcbV : cb < V5.heap.size := (Array.getElem?_eq_some_iff.1 HV.out.2.2.2.2.2).1
        clear CB2 END0 hb1 hqc hd PLC CBW f3
        go_wp2_with fail
        go_roundw
        case rel =>
          refine ⟨k + 1, by omega, by go_num, es ++ [⟨X, qa, qc⟩], by rw [List.length_append, HK.out.1]; rfl, ?_, ?_, (HK.out.2.2.2.1.below HB1.out).trans FK.out, ?_⟩
          · rw [List.map_append, HK.out.2.1, List.take_add_one, HX.out]
            simp [HXX.out]
          · have e1 : flatI (es ++ [⟨X, qa, qc⟩] ++ List.replicate (cn - (k + 1)) zI) = flatI es ++ ([.int .i64 X.op, .int .i64 X.a, .int .i64 X.n, .string X.lib, .string X.own, .int .i64 X.quote.kind, .int .i64 X.quote.n, .string X.quote.name, .int .i64 X.quote.stamp, .int .i64 X.quote.lib, .slice qa X.quote.kids.length qc] : List Value) ++ flatI (List.replicate (cn - (k + 1)) zI) := by
              rw [flatI_append, flatI_append]
              rfl
            rw [e1]
            exact END.out
          · intro e he
            have hs5 := HK.out.2.2.2.1.size
            have hs6 := HB1.out.size
            have hs7 := FK.out.size
            have keepF : ∀ b, V5.heap.size ≤ b → b < W1.heap.size → _ := fun b h1 h2 => FK.out.block b h2 (by simp; omega)
            rcases List.mem_append.1 he with he | he
            · exact (HK.out.2.2.2.2 e he).stay (fun b hb => (keepF b hb.1 (Nat.lt_of_lt_of_le hb.2 hs6)).trans (HB1.out.block b hb.2)) (fun b hb => ⟨hb.1, Nat.lt_of_lt_of_le (Nat.lt_of_lt_of_le hb.2 hs6) hs7⟩)
            · rw [List.mem_singleton.1 he]
              exact HNE.out.stay (fun b hb => keepF b (Nat.le_trans hs5 hb.1) hb.2) (fun b hb => ⟨Nat.le_trans hs5 hb.1, Nat.lt_of_lt_of_le hb.2 hs7⟩)
        case measure => simp [intOf]; omega
      · obtain rfl : k = cn := by omega
        have QV := hidd (HQV.out wr HK.out.2.2.2.1)
        obtain ⟨va, vc, hpv, _⟩ := own_slice QV.out.1.pr
        subst hpv
        obtain ⟨p, hp⟩ : ∃ p : PE, p = ⟨P.args, es, some ⟨cb, 0, none⟩, k⟩ := ⟨_, rfl⟩
        have HPE := hidd hp
        have hcbV : cb < V5.heap.size := (Array.getElem?_eq_some_iff.1 HV.out.2.2.2.2.2).1
        have hcbW : cb < wr.heap.size := Nat.lt_of_lt_of_le hcbV HK.out.2.2.2.1.size
        have hpok : p.Ok (fun b => N1 < b ∧ b < wr.heap.size ∧ ¬ OG N1 (.slice va (ps0 ++ qs).length vc) sv b) wr := by
          rw [hp]
          refine ⟨Nat.le_of_eq HK.out.1, Or.inr ⟨cb, rfl, ⟨hN1cb, hcbW, HOQ.out.2⟩, fun j v hv => ?_⟩, fun e he => (HK.out.2.2.2.2 e he).stay (fun _ _ => rfl) (fun b hb => ⟨by omega, hb.2, fun e => by have := (HV.out.1.oglt e).2; omega⟩)⟩
          rw [cellO HK.out.2.2.1]
          simpa using hv
        obtain ⟨NW, hNW⟩ : ∃ o, o = Obj.cells #[.int .i64 P.args, .slice (some ⟨cb, 0, none⟩) k k] 46 := ⟨_, rfl⟩
        have hb6 := (Below.refl wr.heap.size wr).alloc (Nat.le_refl _) (.cells #[.int .i64 P.args, .slice (some ⟨cb, 0, none⟩) k k] 46)
        have HI6 := hidd (QV.out.1.below hb6)
        have HPO6 := hidd (hpok.stay (fun b hb => hb6.block b hb.2.1) (fun b hb => (⟨hb.1, Nat.lt_of_lt_of_le hb.2.1 hb6.size, hb.2.2⟩ : N1 < b ∧ b < (wr.alloc (.cells #[.int .i64 P.args, .slice (some ⟨cb, 0, none⟩) k k] 46)).heap.size ∧ ¬ OG N1 (.slice va (ps0 ++ qs).length vc) sv b)))
        have N06 := hidd ((hb6.block _ (Array.getElem?_eq_some_iff.1 QV.out.2.1).1).trans QV.out.2.1)
        have XB6 := hidd ((hb6.block _ (Array.getElem?_eq_some_iff.1 QV.out.2.2.1).1).trans QV.out.2.2.1)
        have BW6 := hidd (QV.out.2.2.2.2.trans (hb6.mono QV.out.1.ble))
        have NEW6 := hidd (World.alloc_heap_new wr (.cells #[.int .i64 P.args, .slice (some ⟨cb, 0, none⟩) k k] 46))
        obtain ⟨pl, hpl⟩ : ∃ n, n = (ps0 ++ qs).length := ⟨_, rfl⟩
        have HPLN := hidd hpl
        have hpl2 : pl ≤ 40000 := by
          have h1 : qs.length = q := by
            have := congrArg List.length HQM.out
            simp at this
            rw [this, ← HPN.out]; omega
          have h2 := RT.out.n500
          have h3 := HPN.out
          rw [hpl, List.length_append, h1, ← HST.out]; omega
        have z1 : wr.cell? ⟨N1, 1, none⟩ = some (.slice va pl vc) := by rw [hpl]; exact (cellO QV.out.1.box).trans rfl
        have z3 : wr.cell? ⟨pbx, 0, none⟩ = some (.int .i64 P.args) := (cellO QV.out.2.2.2.1).trans rfl
        obtain ⟨i0, hinf, hz0, hz1, hz2⟩ := info_parts infoPro
        clear hb6 hpok hp hpl hNW NW
        go_wp2_with (at_builtin; refine wpList_append_where rfl _ _ 24 rfl B 46 i0 _ 2 32 Tryd.underlying24 hinf hz0 hz1 hz2 rfl (by decide) (.slice va pl vc) pl (flatP (ps0 ++ qs)) rfl (by rw [HPLN.out]; exact HI6.out.pr) ⟨wr.heap.size, 0, none⟩ 1 1 [.int .i64 P.args, .slice (some ⟨cb, 0, none⟩) k k] rfl rfl ?c1 ?c2 (by decide) ?c3 ?c4 ?c5 ?_)
        case c1 =>
          intro q v hq
          have hadd : (⟨wr.heap.size, 0, none⟩ : Addr).add q = ⟨wr.heap.size, q, none⟩ := by unfold Addr.add; split <;> simp_all
          rw [hadd, cellO NEW6.out]
          simpa using hq
        case c2 =>
          intro v hv
          simp at hv
          rcases hv with rfl | rfl <;> rfl
        case c3 => unfold maxLen; omega
        case c4 => omega
        case c5 => exact HI6.out.ble
        intro pv' W4 hown4 hg4 hw4
        rw [HPLN.out] at hown4 hg4 hw4
        have N14 := (gk hg4 HI6.out.lt HI6.out.s1).trans HI6.out.box
        have PRO := HI6.out.proto HPO6.out (pv' := pv') (by rw [HPE.out]; unfold PE.cells; rw [HK.out.1]; exact hown4) hg4 (by simpa using hw4)
        obtain ⟨va', vc', hpv', _⟩ := own_slice hown4
        subst hpv'
        obtain ⟨pl', hpl'⟩ : ∃ n, n = (ps0 ++ qs).length + 1 := ⟨_, rfl⟩
        rw [← hpl'] at PRO ⊢
        have y2 : W4.cell? ⟨N1, 1, none⟩ = some (.slice va (ps0 ++ qs).length vc) := (cellO N14).trans rfl
        have yz := looseO (q := 1) N14
        have HI7 := hidd (And.intro PRO.1 (And.intro ((PRO.2.keep _ (Array.getElem?_eq_some_iff.1 N06.out).1 HOX.out.1).trans N06.out) (And.intro ((PRO.2.keep _ (Array.getElem?_eq_some_iff.1 XB6.out).1 HOX.out.2).trans XB6.out) (And.intro (fun e => HOX.out.1 (PRO.2.own _ (Array.getElem?_eq_some_iff.1 N06.out).1 e)) (And.intro (fun e => HOX.out.2 (PRO.2.own _ (Array.getElem?_eq_some_iff.1 XB6.out).1 e)) (BW6.out.trans PRO.2.low))))))
        clear PRO hown4 hg4 hw4 N14 HI6 hinf hz0 hz1 hz2 z1 z3 hpl' N06 XB6 BW6 NEW6 HPO6 QV
        go_wp2_with fail
        go_roundw
        case rel =>
          refine ⟨q + 1, by omega, by go_num, _, _, qs ++ [p], by rw [← List.append_assoc]; exact HI7.out.1, ?_, HI7.out.2⟩
          rw [List.map_append, HQM.out, List.take_add_one, HP.out, HPE.out]
          have e1 := HK.out.2.1
          rw [HCN.out, List.take_length] at e1
          simp [PE.pro, placeP, e1]
        case measure => simp [intOf]; omega
    · obtain rfl : q = pn := by omega
      clear HI3
      go_wp2_with fail
      go_roundw
      case rel =>
        refine ⟨j + 1, by omega, by go_num, pv, sv, ps0 ++ qs, ss ++ [(st : Int)], HQ.out.1, ?_, ?_, HQ.out.2.2.1, HQ.out.2.2.2.2.1, HQ.out.2.2.2.2.2.2⟩
        · have h1 := HR.out.2.1
          rw [imgS_next HU.out, ← h1]
          unfold imgStep
          rw [List.map_append, HQ.out.2.1, HPN.out, List.take_length, List.length_map, ← HST.out]
        · have h1 := HR.out.2.2.1
          have h2 := RT.out.n500
          have h3 : qs.length = q := by
            have := congrArg List.length HQ.out.2.1
            simp at this
            rw [this, ← HPN.out]; omega
          have h4 := HPN.out
          rw [List.length_append, h3, Nat.add_mul]
          omega
      case measure => simp [intOf]; omega
  · obtain rfl : j = n := by omega
    obtain ⟨va, vc, hpv, _⟩ := own_slice HR.out.1.pr
    obtain ⟨sa, sc, hsv, _⟩ := own_slice HR.out.1.sr
    subst hpv hsv
    obtain ⟨pl, hpl⟩ : ∃ n, n = ps0.length := ⟨_, rfl⟩
    obtain ⟨sl, hsl⟩ : ∃ n, n = ss.length := ⟨_, rfl⟩
    have HPS := hidd (And.intro hpl hsl)
    rw [← hpl, ← hsl] at HR
    clear hpl hsl
    have e0 : wr.cell? ⟨N1, 0, none⟩ = some (.slice ba n0 bc) := (cellO HR.out.1.box).trans rfl
    have e1 : wr.cell? ⟨N1, 1, none⟩ = some (.slice va pl vc) := (cellO HR.out.1.box).trans rfl
    have e2 : wr.cell? ⟨N1, 2, none⟩ = some (.slice sa sl sc) := (cellO HR.out.1.box).trans rfl
    have r0 : wr.cell? ⟨N0, 0, none⟩ = some (.slice none 0 0) := (cellO HR.out.2.2.2.1).trans rfl
    have r1 : wr.cell? ⟨N0, 1, none⟩ = some (.slice none 0 0) := (cellO HR.out.2.2.2.1).trans rfl
    have r2 : wr.cell? ⟨N0, 2, none⟩ = some (.slice none 0 0) := (cellO HR.out.2.2.2.1).trans rfl
    have rz : ∀ q, wr.frozen? ⟨N0, q, none⟩ = false := fun q => looseO HR.out.2.2.2.1
    have K3 : Hid (Keep N0 wr (((wr.setCell ⟨N0, 0, none⟩ (.slice ba n0 bc)).setCell ⟨N0, 1, none⟩ (.slice va pl vc)).setCell ⟨N0, 2, none⟩ (.slice sa sl sc))) := (((Keep.refl N0 wr).setCell _ rfl _).setCell _ rfl _).setCell _ rfl _
    have END := hidd (three_at2 (three_at1 (three_at0 HR.out.2.2.2.1 (.slice ba n0 bc)) (.slice va pl vc)) (.slice sa sl sc))
    go_wp2_with fail
    refine bodyPost_ret (ret15 END.out rfl) rfl ⟨.slice va pl vc, .slice sa sl sc, ps0, ss, rfl, ?_, ?_, ?_, ?_, ?_⟩
    · have := HR.out.2.2.2.2.2.trans (K3.out.toBelow HB0N.out.1 HR.out.1.ble)
      rwa [HBW.out] at this
    · have := own_stay HR.out.1.pr (fun g hg => K3.out.block g (HR.out.1.pr.lt g hg).2 (fun e => HR.out.2.2.2.2.1 (Or.inr (Or.inl (by rw [hg, ← e])))))
      rwa [HBW.out] at this
    · have := own_stay HR.out.1.sr (fun g hg => K3.out.block g (HR.out.1.sr.lt g hg).2 (fun e => HR.out.2.2.2.2.1 (Or.inr (Or.inr (by rw [hg, ← e])))))
      rwa [HBW.out] at this
    · have h1 := HR.out.2.1
      rw [HN.out, List.take_length] at h1
      exact h1
    · intro p hp
      exact (HR.out.1.ok p hp).stay (fun b hb => K3.out.block b hb.2.1 (fun e => by have h1 := HB0N.out.2; have h2 := hb.1; simp at e; omega)) (fun b hb => ⟨by have h1 := HB0N.out; have h2 := hb.1; have h3 := HBW.out; omega, Nat.lt_of_lt_of_le hb.2.1 K3.out.size⟩)
end Go.Proofs.YtdnbingddbakaaaDoor
