/- The maker: a body. -/
import Derived.Test.YtbbmdhkbndgdkaaEa
namespace Go.Proofs.Ytbbmdhkbndgdkaa
set_option linter.unusedVariables false
set_option linter.unusedSimpArgs false
open Go.RowKit

theorem coreW_any (B0 B : Nat) (hB : B0 ≤ B) : ∀ (f : Nat), CoreW B0 B f
  | 0 => fun X T M tv pv is ps b o c w hcn hok hsm hs hp hl h => by
    obtain ⟨_, _, _, _, _, _, _, _, hk⟩ := id hcn
    have hk0 : c.kids = [] := hk
    exact core28 B0 B 0 0 hB X T M tv pv is ps b o c w hcn (fun qa qc ka kc _ => by rw [hk0]; exact ⟨Nat.zero_le _, Or.inl rfl⟩) (fun h => absurd hk0 h) hok hsm hs hp hl h
  | f + 1 => fun X T M tv pv is ps b o c w hcn hok hsm hs hp hl h => by
    obtain ⟨_, qa, qc, ka, kc, nc, _, _, hk⟩ := id hcn
    refine core28 B0 B f (f + 1) hB X T M tv pv is ps b o c w hcn (fun qa' qc' ka' kc' nc' => ?_) (fun _ => coreW_any B0 B hB f) hok hsm hs hp hl h
    have e := nc'.c11.symm.trans nc.c11
    simp at e
    rw [e.1]
    exact hk
theorem genB_snoc (c : Cor) : ∀ (l : List Cor) (at0 pr : Nat), genB (l ++ [c]) at0 pr = ((genB l at0 pr).1 ++ (genC c (at0 + (genB l at0 pr).1.length) (pr + (genB l at0 pr).2.length)).1 ++ [insO 14], (genB l at0 pr).2 ++ (genC c (at0 + (genB l at0 pr).1.length) (pr + (genB l at0 pr).2.length)).2)
  | [], at0, pr => by simp [genB]
  | x :: r, at0, pr => by
    rw [List.cons_append, genB, genB, genB_snoc c r]
    simp only [List.append_assoc, List.length_append, Nat.add_assoc, List.length_cons, List.cons_append, Nat.add_comm 1]
theorem genB_more {l : List Cor} {j : Nat} {c : Cor} (h : l[j]? = some c) (at0 pr : Nat) : genB (l.take (j + 1)) at0 pr = ((genB (l.take j) at0 pr).1 ++ (genC c (at0 + (genB (l.take j) at0 pr).1.length) (pr + (genB (l.take j) at0 pr).2.length)).1 ++ [insO 14], (genB (l.take j) at0 pr).2 ++ (genC c (at0 + (genB (l.take j) at0 pr).1.length) (pr + (genB (l.take j) at0 pr).2.length)).2) := by
  rw [take_more h]
  exact genB_snoc c _ at0 pr
theorem genB_len : ∀ (l : List Cor), (∀ c ∈ l, Len c) → ∀ at0 pr, (genB l at0 pr).1.length = sizL l + l.length ∧ (genB l at0 pr).2.length = lamL l
  | [], _, at0, pr => by rw [genB, sizL, lamL]; exact ⟨rfl, rfl⟩
  | c :: r, h, at0, pr => by
    have h1 := h c (by simp) at0 pr
    have h2 := genB_len r (fun c hc => h c (List.mem_cons_of_mem _ hc)) (at0 + (genC c at0 pr).1.length + 1) (pr + (genC c at0 pr).2.length)
    rw [genB, sizL, lamL]
    simp only [List.length_append, List.length_cons]
    omega
theorem MK.fr22 {B T M : Nat} {X : Nat → Prop} {tv pv : Value} {is : List IE} {ps : List PE} {w : World} (h : MK B X T M tv pv is ps w) {k : Nat} {cs : Array Value} (hk : w.heap[k]? = some (.cells cs 22 (0, 0))) : Fr T M tv pv k := by
  refine ⟨?_, ?_, ?_, ?_⟩
  · rintro rfl
    rw [h.tb] at hk
    simp at hk
  · rintro rfl
    rw [h.mb] at hk
    simp at hk
  · intro e
    rcases h.tr.2 with ⟨rfl, _⟩ | ⟨g, cap, cur, rfl, _, hg, _⟩
    · simp [Value.ownBlock] at e
    · have e2 : k = g := by simpa [Value.ownBlock] using e
      rw [e2, hg] at hk
      simp at hk
  · intro e
    rcases h.pr.2 with ⟨rfl, _⟩ | ⟨g, cap, cur, rfl, _, hg, _⟩
    · simp [Value.ownBlock] at e
    · have e2 : k = g := by simpa [Value.ownBlock] using e
      rw [e2, hg] at hk
      simp at hk

set_option maxRecDepth 100000 in
set_option maxHeartbeats 1600000 in
theorem clos27_any (B0 B F : Nat) (hB : B0 ≤ B) (X : Nat → Prop) (T M : Nat) (tv pv : Value) (is : List IE) (ps : List PE) (l : List Cor) (a : Option Addr) (cap bl bm : Nat) (w : World) (hc : Cc B0 w F a l) (hcap : l.length ≤ cap)
    (hbl : w.heap[bl]? = some (.cells #[.slice a l.length cap] 22 (0, 0))) (hbm : w.heap[bm]? = some (.cells #[.pointer (some ⟨M, 0, none⟩)] 68 (0, 0))) (hok : okL l) (hsm : smCL l) (hs : is.length + sizL l + l.length ≤ 100000000) (hp : ps.length + lamL l ≤ 100000000) (hl : lonL l ≤ 100000000) (h : MK B X T M tv pv is ps w) :
    Calls Try.prog 27 #[.pointer (some ⟨T, 0, none⟩), .pointer (some ⟨bl, 0, none⟩), .pointer (some ⟨bm, 0, none⟩)] w (ToldM B X T M tv pv is ps (genB l is.length ps.length) w) := by
  have hlen := hc.len
  have HL := hidd hc
  have hfl := hidd (h.fr22 hbl)
  have hfm := hidd (h.frOf hbm (Or.inl rfl))
  have HBX : Hid (w.heap[bl]? = some (.cells #[.slice a l.length cap] 22 (0, 0)) ∧ w.heap[bm]? = some (.cells #[.pointer (some ⟨M, 0, none⟩)] 68 (0, 0))) := ⟨hbl, hbm⟩
  have HO : Hid (okL l ∧ smCL l ∧ (∀ c ∈ l, Len c) ∧ lonL l ≤ 100000000) := ⟨hok, hsm, each_len l hok, hl⟩
  have W0 : Hid (Way B X T M tv pv is ps (genB (l.take 0) is.length ps.length) w w tv pv [] []) := ⟨by simp [genB], by simp [genB], by simpa using h, FR.refl _ _ _ _ _ _⟩
  have cl : w.cell? ⟨bl, 0, none⟩ = some (.slice a l.length cap) := (cellOf hbl).trans rfl
  clear hc hok hsm h hl hbl hbm
  obtain ⟨G, hG⟩ : ∃ G, G = genB l is.length ps.length := ⟨_, rfl⟩
  rw [← hG]
  have HG := hidd hG
  clear hG
  go_enter Try.func27, Try.ntmps27
  go_wp2_with fail
  go_loopw [7] (fun ix wr => ∃ (j : Nat) (tv' pv' : Value) (is' : List IE) (ps' : List PE), j ≤ l.length ∧ ix = .int .i64 j ∧ Hid (Way B X T M tv pv is ps (genB (l.take j) is.length ps.length) w wr tv' pv' is' ps')) (fun ix _ => l.length - (intOf ix).toNat)
  case atStart => exact ⟨0, tv, pv, [], [], Nat.zero_le _, rfl, W0.out⟩
  case round =>
    clear W0 cl
    obtain ⟨j, tv1, pv1, is1, ps1, hj, rfl, HW⟩ := hrel
    by_cases hlt : j < l.length
    · obtain ⟨c, hc⟩ : ∃ c, l[j]? = some c := ⟨l[j], List.getElem?_eq_getElem hlt⟩
      have hne : l ≠ [] := by intro e; rw [e] at hlt; simp at hlt
      obtain ⟨g', kb, ko, hg, hka, hall⟩ := HL.out.at hne
      subst hka
      have b1 := sizL_more hc
      have b2 := lamL_more hc
      have t1 := sizL_take l (j + 1)
      have t2 := lamL_take l (j + 1)
      have t3 := lonL_mem hc
      have li := HW.out.li
      have lp := HW.out.lp
      have hll := genB_len (l.take j) (fun x hx => HO.out.2.2.1 x (List.mem_of_mem_take hx)) is.length ps.length
      rw [List.length_take, Nat.min_eq_left hj] at hll
      have hl9 := HO.out.2.2.2
      have GM := hidd (genB_more hc is.length ps.length)
      have HLC := hidd (HO.out.2.2.1 c (List.mem_of_getElem? hc) (is ++ is1).length (ps ++ ps1).length)
      have BD : Hid ((is ++ is1).length + sizC c ≤ 100000000) := by show _ ≤ _; omega
      have hd : Below wr.heap.size wr wr.drew := Below.drew (Below.refl _ _)
      have CALL := hidd (coreW_any B0 B hB g' X T M tv1 pv1 (is ++ is1) (ps ++ ps1) kb (ko + j * 12) c wr.drew ((hall j c hc).below ((HW.out.fr.low.trans (hd.mono HW.out.mm.ble)).mono hB)) (okL_at _ j c HO.out.1 hc) (smCL_at _ j c HO.out.2.1 hc) (by omega) (by omega) (by omega) (HW.out.mm.below hd))
      clear b1 b2 t1 t2 t3 li lp hll hl9 hall hc hd hg
      go_upto_region 3 with fail
      refine wp_region_held_drew (S := fun u => u.heap[bl]? = some (.cells #[.slice (some ⟨kb, ko, none⟩) l.length cap] 22 (0, 0)) ∧ u.heap[bm]? = some (.cells #[.pointer (some ⟨M, 0, none⟩)] 68 (0, 0))) (by kernel_rfl) ⟨(HW.out.fr.keep _ (Array.getElem?_eq_some_iff.1 HBX.out.1).1 hfl.out).trans HBX.out.1, (HW.out.fr.keep _ (Array.getElem?_eq_some_iff.1 HBX.out.2).1 hfm.out).trans HBX.out.2⟩ (fun hS => ?_)
      refine wpAnyH_take (i := 0) (oi := { dst := some 10, op := Op.load 68 (Operand.tmp 2), type := 68, pos := _, after := _, guard := none }) (v := .pointer (some ⟨M, 0, none⟩)) rfl (by kernel_rfl) (by kernel_rfl) (by kernel_rfl) (fun _ _ _ h => h) (Or.inl ⟨by rfl, fun u hu => by (have z : u.cell? ⟨bm, 0, none⟩ = some (.pointer (some ⟨M, 0, none⟩)) := (by simp [World.cell?, show u.heap[bm]? = _ from hu.2]); go_simp)⟩) hS ?_
      simp only [Act.put, List.setIfInBounds_toArray, List.set_cons_zero, List.set_cons_succ]
      refine wpAnyH_take (i := 1) (oi := { dst := some 11, op := Op.move (Operand.tmp 0), type := 70, pos := _, after := _, guard := none }) (v := .pointer (some ⟨T, 0, none⟩)) rfl (by kernel_rfl) (by kernel_rfl) (by kernel_rfl) (fun _ _ _ h => h) (Or.inl ⟨by rfl, fun u hu => by go_simp⟩) hS ?_
      simp only [Act.put, List.setIfInBounds_toArray, List.set_cons_zero, List.set_cons_succ]
      refine wpAnyH_take (i := 2) (oi := { dst := some 12, op := Op.load 22 (Operand.tmp 1), type := 22, pos := _, after := _, guard := none }) (v := .slice (some ⟨kb, ko, none⟩) l.length cap) rfl (by kernel_rfl) (by kernel_rfl) (by kernel_rfl) (fun _ _ _ h => h) (Or.inl ⟨by rfl, fun u hu => by (have z : u.cell? ⟨bl, 0, none⟩ = some (.slice (some ⟨kb, ko, none⟩) l.length cap) := (by simp [World.cell?, show u.heap[bl]? = _ from hu.1]); go_simp)⟩) hS ?_
      simp only [Act.put, List.setIfInBounds_toArray, List.set_cons_zero, List.set_cons_succ]
      refine wpAnyH_take (i := 3) (oi := { dst := some 13, op := Op.move (Operand.tmp 4), type := 3, pos := _, after := _, guard := none }) (v := .int .i64 j) rfl (by kernel_rfl) (by kernel_rfl) (by kernel_rfl) (fun _ _ _ h => h) (Or.inl ⟨by rfl, fun u hu => by go_simp⟩) hS ?_
      simp only [Act.put, List.setIfInBounds_toArray, List.set_cons_zero, List.set_cons_succ]
      refine wpAnyH_take (i := 4) (oi := { dst := some 14, op := Op.indexAddr 22 (Operand.tmp 12) (Operand.tmp 13), type := 0, pos := _, after := _, guard := none }) (v := .pointer (some ⟨kb, ko + j * 12, none⟩)) rfl (by kernel_rfl) (by kernel_rfl) (by kernel_rfl) (fun _ _ _ h => h) (Or.inl ⟨by rfl, fun u hu => by go_simp⟩) hS ?_
      simp only [Act.put, List.setIfInBounds_toArray, List.set_cons_zero, List.set_cons_succ]
      refine wpAnyH_ready (rs := [5]) (by kernel_rfl) (by simp) (AllReadyH.cons (o := { dst := some 15, op := Op.call { callee := Callee.value (Operand.func 28), args := #[Operand.tmp 10, Operand.tmp 11, Operand.tmp 14], argTypes := #[68, 70, 72] }, type := 0, pos := _, after := _, guard := none }) rfl (fun K hK => ?_) AllReadyH.nil)
      go_simp
      refine CALL.out.mono ?_
      rintro e w2 ⟨rfl, tv2, pv2, is2, ps2, hi2, hp2, mk2, fr2⟩
      have F2 := hidd (HW.out.fr.trans ((FR.of_below (Below.drew (Below.refl _ _)) HW.out.mm.ble).trans fr2))
      have hS2 : w2.heap[bl]? = some (.cells #[.slice (some ⟨kb, ko, none⟩) l.length cap] 22 (0, 0)) ∧ w2.heap[bm]? = some (.cells #[.pointer (some ⟨M, 0, none⟩)] 68 (0, 0)) := ⟨(F2.out.keep _ (Array.getElem?_eq_some_iff.1 HBX.out.1).1 hfl.out).trans HBX.out.1, (F2.out.keep _ (Array.getElem?_eq_some_iff.1 HBX.out.2).1 hfm.out).trans HBX.out.2⟩
      have E2 : Hid (is2.map IE.i = (genC c (is ++ is1).length (ps ++ ps1).length).1 ∧ ps2.map PE.pro = (genC c (is ++ is1).length (ps ++ ps1).length).2) := ⟨hi2, hp2⟩
      have MK2 := hidd mk2
      clear hi2 hp2 mk2 fr2
      show K _ w2
      refine hK.out _ _ hS2 (fun hS => ?_)
      clear hK K
      refine wpAnyH_done (by kernel_rfl) ?_ _
      clear hS
      have hl2 : (is ++ is1 ++ is2).length ≤ 1000000000 := by have h1 := congrArg List.length E2.out.1; rw [List.length_map, HLC.out.1] at h1; rw [List.length_append]; have := BD.out; omega
      have PU := hidd (put_plain 14 B X T M tv2 pv2 (is ++ is1 ++ is2) (ps ++ ps1 ++ ps2) w2 MK2.out hl2)
      clear hl2
      go_wp2_with fail
      refine PU.out.mono ?_
      rintro e w3 ⟨_, tv3, mk3, fr3⟩
      have HW2 : Hid (Way B X T M tv pv is ps (genB (l.take (j + 1)) is.length ps.length) w w3 tv3 pv2 (is1 ++ is2 ++ [IE.mk (insO 14) none 0]) (ps1 ++ ps2)) := by
        show Way _ _ _ _ _ _ _ _ _ _ _ _ _ _ _
        have e2 := E2.out
        rw [HW.out.li, HW.out.lp] at e2
        rw [GM.out]
        refine ⟨?_, ?_, by simpa using mk3, F2.out.trans fr3⟩
        · simp only [List.map_append, HW.out.hi, e2.1]
          rfl
        · simp only [List.map_append, HW.out.hp, e2.2]
      clear mk3 fr3 PU MK2 E2 F2
      rename_i he9
      subst he9
      go_wp2_with fail
      go_roundw
      case rel => exact ⟨j + 1, _, _, _, _, by omega, by go_num, HW2.out⟩
      case measure => simp [intOf]; omega
    · obtain rfl : j = l.length := by omega
      rw [List.take_length] at HW
      clear HL HO
      go_wp2_with fail
      go_end0
      rw [HG.out]
      exact ⟨rfl, _, _, _, _, HW.out.hi, HW.out.hp, HW.out.mm, HW.out.fr⟩

set_option maxRecDepth 100000 in
set_option maxHeartbeats 1600000 in
theorem body_any (B0 B F : Nat) (hB : B0 ≤ B) (X : Nat → Prop) (M : Nat) (l : List Cor) (a : Option Addr) (cap : Nat) (w : World) (hc : Cc B0 w F a l) (hcap : l.length ≤ cap) (hok : okL l) (hsm : smCL l) (hs : sizL l + l.length ≤ 100000000) (hp : lamL l ≤ 1000000) (hl : lonL l ≤ 100000000) (h : MP B X M (.slice none 0 0) [] w) :
    Calls Try.prog 17 #[.pointer (some ⟨M, 0, none⟩), .slice a l.length cap] w fun r w' => r = .returned (.tuple #[]) ∧ ∃ pv' ps', ps'.map PE.pro = protosOf l ∧ MP B X M pv' ps' w' ∧ FP B M (.slice none 0 0) pv' w w' := by
  have hb0 : Below w.heap.size w ((w.alloc (.cells #[.pointer (some ⟨M, 0, none⟩)] 68)).alloc (.cells #[.slice a l.length cap] 22)) := ((Below.refl _ _).alloc (Nat.le_refl _) _).alloc (by simp) _
  have hbm : ((w.alloc (.cells #[.pointer (some ⟨M, 0, none⟩)] 68)).alloc (.cells #[.slice a l.length cap] 22)).heap[w.heap.size]? = some (.cells #[.pointer (some ⟨M, 0, none⟩)] 68 (0, 0)) := (Below.heap_alloc _ _ _ (by simp)).trans (World.alloc_heap_new w _)
  have hbl : ((w.alloc (.cells #[.pointer (some ⟨M, 0, none⟩)] 68)).alloc (.cells #[.slice a l.length cap] 22)).heap[w.heap.size + 1]? = some (.cells #[.slice a l.length cap] 22 (0, 0)) := by
    have := World.alloc_heap_new (w.alloc (.cells #[.pointer (some ⟨M, 0, none⟩)] 68)) (.cells #[.slice a l.length cap] 22)
    simpa using this
  have hgl := genB_len l (each_len l hok) 0 1
  have cm : ((w.alloc (.cells #[.pointer (some ⟨M, 0, none⟩)] 68)).alloc (.cells #[.slice a l.length cap] 22)).cell? ⟨w.heap.size, 0, none⟩ = some (.pointer (some ⟨M, 0, none⟩)) := (cellOf hbm).trans rfl
  have hml := h.mlt
  have mp0 := h.below hb0
  have CH := hidd (proto27_any B X M (.slice none 0 0) [] ((w.alloc (.cells #[.pointer (some ⟨M, 0, none⟩)] 68)).alloc (.cells #[.slice a l.length cap] 22)) 0 ⟨w.heap.size + 1, 0, none⟩ ⟨w.heap.size, 0, none⟩ (genB l 0 1) mp0 (by simp; omega) (by omega) (by
    intro W2 T2 pv2 mk2 keep hbl2
    have k1 := (keep (w.heap.size + 1) (Array.getElem?_eq_some_iff.1 hbl).1 ⟨by omega, by simp [Value.ownBlock]⟩).trans hbl
    have k2 := (keep w.heap.size (Array.getElem?_eq_some_iff.1 hbm).1 ⟨by omega, by simp [Value.ownBlock]⟩).trans hbm
    have := clos27_any B0 B F hB X T2 M _ pv2 [] _ l a cap (w.heap.size + 1) w.heap.size W2 (hc.below (((hb0.mono h.ble).trans hbl2).mono hB)) hcap k1 k2 hok hsm (by simp; omega) (by simp; omega) hl mk2
    simpa using this))
  have FB := hidd (FP.of_below (M := M) (pv := .slice none 0 0) hb0 h.ble)
  clear hc hok hsm h hgl mp0 hbm hbl hb0 hs hp hl
  go_enter Try.func17, Try.ntmps17
  go_wp2_with fail
  refine CH.out.mono ?_
  rintro e w2 ⟨_, pv2, ps2, hp2, mp2, fp2⟩
  have TO : Hid (∃ pv' ps', ps'.map PE.pro = protosOf l ∧ MP B X M pv' ps' w2 ∧ FP B M (.slice none 0 0) pv' w w2) := ⟨pv2, ps2, hp2, by simpa using mp2, FB.out.trans fp2⟩
  clear hp2 mp2 fp2 CH
  rename_i he9
  subst he9
  go_wp2_with fail
  go_end0
  exact ⟨rfl, TO.out⟩
end Go.Proofs.Ytbbmdhkbndgdkaa
