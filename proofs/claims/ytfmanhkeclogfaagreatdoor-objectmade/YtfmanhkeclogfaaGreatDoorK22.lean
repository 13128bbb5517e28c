/- The maker: a body. What is right is not too long to be copied, and not too much. -/
import Derived.Test.YtfmanhkeclogfaaGreatDoorK21
namespace Go.Proofs.YtfmanhkeclogfaaGreatDoor
section
set_option linter.unusedVariables false
set_option linter.unusedSimpArgs false
open Go.RowKit

theorem coreW_any (B0 B : Nat) (hB : B0 ≤ B) : ∀ (f : Nat), CoreW B0 B f
  | 0 => fun X T M tv pv is ps b o c w hcn hok hsm hs hp hl h => by
    obtain ⟨_, _, _, _, _, _, _, _, hk⟩ := id hcn
    have hk0 : c.kids = [] := hk
    exact core28 B0 B 0 0 hB X T M tv pv is ps b o c w hcn (fun qa qc ka kc _ => by rw [hk0]; exact ⟨Nat.zero_le _, Or.inl rfl⟩) (fun h => absurd hk0 h) hok hsm hs hp hl h
  | f + 1 => fun X T M tv pv is ps b o c w hcn hok hsm hs hp hl h => by
    obtain ⟨_, qa, qc, ka, kc, nc, _, _, hk⟩ := id hcn
    refine core28 B0 B f (f + 1) hB X T M tv pv is ps b o c w hcn (fun qa' qc' ka' kc' nc' => ?_) (fun _ => coreW_any B0 B hB f) hok hsm hs hp hl h
    have e := nc'.c11.symm.trans nc.c11
    simp at e
    rw [e.1]
    exact hk
theorem genB_snoc (c : Cor) : ∀ (l : List Cor) (at0 pr : Nat), genB (l ++ [c]) at0 pr = ((genB l at0 pr).1 ++ (genC c (at0 + (genB l at0 pr).1.length) (pr + (genB l at0 pr).2.length)).1 ++ [insO 14], (genB l at0 pr).2 ++ (genC c (at0 + (genB l at0 pr).1.length) (pr + (genB l at0 pr).2.length)).2)
  | [], at0, pr => by simp [genB]
  | x :: r, at0, pr => by
    rw [List.cons_append, genB, genB, genB_snoc c r]
    simp only [List.append_assoc, List.length_append, Nat.add_assoc, List.length_cons, List.cons_append, Nat.add_comm 1]
theorem genB_more {l : List Cor} {j : Nat} {c : Cor} (h : l[j]? = some c) (at0 pr : Nat) : genB (l.take (j + 1)) at0 pr = ((genB (l.take j) at0 pr).1 ++ (genC c (at0 + (genB (l.take j) at0 pr).1.length) (pr + (genB (l.take j) at0 pr).2.length)).1 ++ [insO 14], (genB (l.take j) at0 pr).2 ++ (genC c (at0 + (genB (l.take j) at0 pr).1.length) (pr + (genB (l.take j) at0 pr).2.length)).2) := by
  rw [take_more h]
  exact genB_snoc c _ at0 pr
theorem genB_len : ∀ (l : List Cor), (∀ c ∈ l, Len c) → ∀ at0 pr, (genB l at0 pr).1.length = sizL l + l.length ∧ (genB l at0 pr).2.length = lamL l
  | [], _, at0, pr => by rw [genB, sizL, lamL]; exact ⟨rfl, rfl⟩
  | c :: r, h, at0, pr => by
    have h1 := h c (by simp) at0 pr
    have h2 := genB_len r (fun c hc => h c (List.mem_cons_of_mem _ hc)) (at0 + (genC c at0 pr).1.length + 1) (pr + (genC c at0 pr).2.length)
    rw [genB, sizL, lamL]
    simp only [List.length_append, List.length_cons]
    omega
theorem MK.fr22 {B T M : Nat} {X : Nat → Prop} {tv pv : Value} {is : List IE} {ps : List PE} {w : World} (h : MK B X T M tv pv is ps w) {k : Nat} {cs : Array Value} (hk : w.heap[k]? = some (.cells cs 37 (0, 0))) : Fr T M tv pv k := by
  refine ⟨?_, ?_, ?_, ?_⟩
  · rintro rfl
    rw [h.tb] at hk
    simp at hk
  · rintro rfl
    rw [h.mb] at hk
    simp at hk
  · intro e
    rcases h.tr.2 with ⟨rfl, _⟩ | ⟨g, cap, cur, rfl, _, hg, _⟩
    · simp [Value.ownBlock] at e
    · have e2 : k = g := by simpa [Value.ownBlock] using e
      rw [e2, hg] at hk
      simp at hk
  · intro e
    rcases h.pr.2 with ⟨rfl, _⟩ | ⟨g, cap, cur, rfl, _, hg, _⟩
    · simp [Value.ownBlock] at e
    · have e2 : k = g := by simpa [Value.ownBlock] using e
      rw [e2, hg] at hk
      simp at hk

set_option maxRecDepth 100000 in
set_option maxHeartbeats 1600000 in
theorem clos27_any (B0 B F : Nat) (hB : B0 ≤ B) (X : Nat → Prop) (T M : Nat) (tv pv : Value) (is : List IE) (ps : List PE) (l : List Cor) (a : Option Addr) (cap bl bm : Nat) (w : World) (hc : Cc B0 w F a l) (hcap : l.length ≤ cap)
    (hbl : w.heap[bl]? = some (.cells #[.slice a l.length cap] 37 (0, 0))) (hbm : w.heap[bm]? = some (.cells #[.pointer (some ⟨M, 0, none⟩)] 125 (0, 0))) (hok : okL l) (hsm : smCL l) (hs : is.length + sizL l + l.length ≤ 100000000) (hp : ps.length + lamL l ≤ 100000000) (hl : lonL l ≤ 100000000) (h : MK B X T M tv pv is ps w) :
    Calls Tryz.prog 71 #[.pointer (some ⟨T, 0, none⟩), .pointer (some ⟨bl, 0, none⟩), .pointer (some ⟨bm, 0, none⟩)] w (ToldM B X T M tv pv is ps (genB l is.length ps.length) w) := by
  have hlen := hc.len
  have HL := hidd hc
  have hfl := hidd (h.fr22 hbl)
  have hfm := hidd (h.frOf hbm (Or.inl rfl))
  have HBX : Hid (w.heap[bl]? = some (.cells #[.slice a l.length cap] 37 (0, 0)) ∧ w.heap[bm]? = some (.cells #[.pointer (some ⟨M, 0, none⟩)] 125 (0, 0))) := ⟨hbl, hbm⟩
  have HO : Hid (okL l ∧ smCL l ∧ (∀ c ∈ l, Len c) ∧ lonL l ≤ 100000000) := ⟨hok, hsm, each_len l hok, hl⟩
  have W0 : Hid (Way B X T M tv pv is ps (genB (l.take 0) is.length ps.length) w w tv pv [] []) := ⟨by simp [genB], by simp [genB], by simpa using h, FR.refl _ _ _ _ _ _⟩
  have cl : w.cell? ⟨bl, 0, none⟩ = some (.slice a l.length cap) := (cellOf hbl).trans rfl
  clear hc hok hsm h hl hbl hbm
  obtain ⟨G, hG⟩ : ∃ G, G = genB l is.length ps.length := ⟨_, rfl⟩
  rw [← hG]
  have HG := hidd hG
  clear hG
  go_enter Tryz.func71, Tryz.ntmps71
  go_wp2_with fail
  go_loopw [7] (fun ix wr => ∃ (j : Nat) (tv' pv' : Value) (is' : List IE) (ps' : List PE), j ≤ l.length ∧ ix = .int .i64 j ∧ Hid (Way B X T M tv pv is ps (genB (l.take j) is.length ps.length) w wr tv' pv' is' ps')) (fun ix _ => l.length - (intOf ix).toNat)
  case atStart => exact ⟨0, tv, pv, [], [], Nat.zero_le _, rfl, W0.out⟩
  case round =>
    clear W0 cl
    obtain ⟨j, tv1, pv1, is1, ps1, hj, rfl, HW⟩ := hrel
    by_cases hlt : j < l.length
    · obtain ⟨c, hc⟩ : ∃ c, l[j]? = some c := ⟨l[j], List.getElem?_eq_getElem hlt⟩
      have hne : l ≠ [] := by intro e; rw [e] at hlt; simp at hlt
      obtain ⟨g', kb, ko, hg, hka, hall⟩ := HL.out.at hne
      subst hka
      have b1 := sizL_more hc
      have b2 := lamL_more hc
      have t1 := sizL_take l (j + 1)
      have t2 := lamL_take l (j + 1)
      have t3 := lonL_mem hc
      have li := HW.out.li
      have lp := HW.out.lp
      have hll := genB_len (l.take j) (fun x hx => HO.out.2.2.1 x (List.mem_of_mem_take hx)) is.length ps.length
      rw [List.length_take, Nat.min_eq_left hj] at hll
      have hl9 := HO.out.2.2.2
      have GM := hidd (genB_more hc is.length ps.length)
      have HLC := hidd (HO.out.2.2.1 c (List.mem_of_getElem? hc) (is ++ is1).length (ps ++ ps1).length)
      have BD : Hid ((is ++ is1).length + sizC c ≤ 100000000) := by show _ ≤ _; omega
      have hd : Below wr.heap.size wr wr.drew := Below.drew (Below.refl _ _)
      have CALL := hidd (coreW_any B0 B hB g' X T M tv1 pv1 (is ++ is1) (ps ++ ps1) kb (ko + j * 12) c wr.drew ((hall j c hc).below ((HW.out.fr.low.trans (hd.mono HW.out.mm.ble)).mono hB)) (okL_at _ j c HO.out.1 hc) (smCL_at _ j c HO.out.2.1 hc) (by omega) (by omega) (by omega) (HW.out.mm.below hd))
      clear b1 b2 t1 t2 t3 li lp hll hl9 hall hc hd hg
      go_upto_region 3 with fail
      refine wp_region_held_drew (S := fun u => u.heap[bl]? = some (.cells #[.slice (some ⟨kb, ko, none⟩) l.length cap] 37 (0, 0)) ∧ u.heap[bm]? = some (.cells #[.pointer (some ⟨M, 0, none⟩)] 125 (0, 0))) (by kernel_rfl) ⟨(HW.out.fr.keep _ (Array.getElem?_eq_some_iff.1 HBX.out.1).1 hfl.out).trans HBX.out.1, (HW.out.fr.keep _ (Array.getElem?_eq_some_iff.1 HBX.out.2).1 hfm.out).trans HBX.out.2⟩ (fun hS => ?_)
      refine wpAnyH_take (i := 0) (oi := { dst := some 10, op := Op.load 125 (Operand.tmp 2), type := 125, pos := _, after := _, guard := none }) (v := .pointer (some ⟨M, 0, none⟩)) rfl (by kernel_rfl) (by kernel_rfl) (by kernel_rfl) (fun _ _ _ h => h) (Or.inl ⟨by rfl, fun u hu => by (have z : u.cell? ⟨bm, 0, none⟩ = some (.pointer (some ⟨M, 0, none⟩)) := (by simp [World.cell?, show u.heap[bm]? = _ from hu.2]); go_simp)⟩) hS ?_
      simp only [Act.put, List.setIfInBounds_toArray, List.set_cons_zero, List.set_cons_succ]
      refine wpAnyH_take (i := 1) (oi := { dst := some 11, op := Op.move (Operand.tmp 0), type := 127, pos := _, after := _, guard := none }) (v := .pointer (some ⟨T, 0, none⟩)) rfl (by kernel_rfl) (by kernel_rfl) (by kernel_rfl) (fun _ _ _ h => h) (Or.inl ⟨by rfl, fun u hu => by go_simp⟩) hS ?_
      simp only [Act.put, List.setIfInBounds_toArray, List.set_cons_zero, List.set_cons_succ]
      refine wpAnyH_take (i := 2) (oi := { dst := some 12, op := Op.load 37 (Operand.tmp 1), type := 37, pos := _, after := _, guard := none }) (v := .slice (some ⟨kb, ko, none⟩) l.length cap) rfl (by kernel_rfl) (by kernel_rfl) (by kernel_rfl) (fun _ _ _ h => h) (Or.inl ⟨by rfl, fun u hu => by (have z : u.cell? ⟨bl, 0, none⟩ = some (.slice (some ⟨kb, ko, none⟩) l.length cap) := (by simp [World.cell?, show u.heap[bl]? = _ from hu.1]); go_simp)⟩) hS ?_
      simp only [Act.put, List.setIfInBounds_toArray, List.set_cons_zero, List.set_cons_succ]
      refine wpAnyH_take (i := 3) (oi := { dst := some 13, op := Op.move (Operand.tmp 4), type := 3, pos := _, after := _, guard := none }) (v := .int .i64 j) rfl (by kernel_rfl) (by kernel_rfl) (by kernel_rfl) (fun _ _ _ h => h) (Or.inl ⟨by rfl, fun u hu => by go_simp⟩) hS ?_
      simp only [Act.put, List.setIfInBounds_toArray, List.set_cons_zero, List.set_cons_succ]
      refine wpAnyH_take (i := 4) (oi := { dst := some 14, op := Op.indexAddr 37 (Operand.tmp 12) (Operand.tmp 13), type := 0, pos := _, after := _, guard := none }) (v := .pointer (some ⟨kb, ko + j * 12, none⟩)) rfl (by kernel_rfl) (by kernel_rfl) (by kernel_rfl) (fun _ _ _ h => h) (Or.inl ⟨by rfl, fun u hu => by go_simp⟩) hS ?_
      simp only [Act.put, List.setIfInBounds_toArray, List.set_cons_zero, List.set_cons_succ]
      refine wpAnyH_ready (rs := [5]) (by kernel_rfl) (by simp) (AllReadyH.cons (o := { dst := some 15, op := Op.call { callee := Callee.value (Operand.func 72), args := #[Operand.tmp 10, Operand.tmp 11, Operand.tmp 14], argTypes := #[125, 127, 129] }, type := 0, pos := _, after := _, guard := none }) rfl (fun K hK => ?_) AllReadyH.nil)
      go_simp
      refine CALL.out.mono ?_
      rintro e w2 ⟨rfl, tv2, pv2, is2, ps2, hi2, hp2, mk2, fr2⟩
      have F2 := hidd (HW.out.fr.trans ((FR.of_below (Below.drew (Below.refl _ _)) HW.out.mm.ble).trans fr2))
      have hS2 : w2.heap[bl]? = some (.cells #[.slice (some ⟨kb, ko, none⟩) l.length cap] 37 (0, 0)) ∧ w2.heap[bm]? = some (.cells #[.pointer (some ⟨M, 0, none⟩)] 125 (0, 0)) := ⟨(F2.out.keep _ (Array.getElem?_eq_some_iff.1 HBX.out.1).1 hfl.out).trans HBX.out.1, (F2.out.keep _ (Array.getElem?_eq_some_iff.1 HBX.out.2).1 hfm.out).trans HBX.out.2⟩
      have E2 : Hid (is2.map IE.i = (genC c (is ++ is1).length (ps ++ ps1).length).1 ∧ ps2.map PE.pro = (genC c (is ++ is1).length (ps ++ ps1).length).2) := ⟨hi2, hp2⟩
      have MK2 := hidd mk2
      clear hi2 hp2 mk2 fr2
      show K _ w2
      refine hK.out _ _ hS2 (fun hS => ?_)
      clear hK K
      refine wpAnyH_done (by kernel_rfl) ?_ _
      clear hS
      have hl2 : (is ++ is1 ++ is2).length ≤ 1000000000 := by have h1 := congrArg List.length E2.out.1; rw [List.length_map, HLC.out.1] at h1; rw [List.length_append]; have := BD.out; omega
      have PU := hidd (put_plain 14 B X T M tv2 pv2 (is ++ is1 ++ is2) (ps ++ ps1 ++ ps2) w2 MK2.out hl2)
      clear hl2
      go_wp2_with fail
      refine PU.out.mono ?_
      rintro e w3 ⟨_, tv3, mk3, fr3⟩
      have HW2 : Hid (Way B X T M tv pv is ps (genB (l.take (j + 1)) is.length ps.length) w w3 tv3 pv2 (is1 ++ is2 ++ [IE.mk (insO 14) none 0]) (ps1 ++ ps2)) := by
        show Way _ _ _ _ _ _ _ _ _ _ _ _ _ _ _
        have e2 := E2.out
        rw [HW.out.li, HW.out.lp] at e2
        rw [GM.out]
        refine ⟨?_, ?_, by simpa using mk3, F2.out.trans fr3⟩
        · simp only [List.map_append, HW.out.hi, e2.1]
          rfl
        · simp only [List.map_append, HW.out.hp, e2.2]
      clear mk3 fr3 PU MK2 E2 F2
      rename_i he9
      subst he9
      go_wp2_with fail
      go_roundw
      case rel => exact ⟨j + 1, _, _, _, _, by omega, by go_num, HW2.out⟩
      case measure => simp [intOf]; omega
    · obtain rfl : j = l.length := by omega
      rw [List.take_length] at HW
      clear HL HO
      go_wp2_with fail
      go_end0
      rw [HG.out]
      exact ⟨rfl, _, _, _, _, HW.out.hi, HW.out.hp, HW.out.mm, HW.out.fr⟩

set_option maxRecDepth 100000 in
set_option maxHeartbeats 1600000 in
theorem body_any (B0 B F : Nat) (hB : B0 ≤ B) (X : Nat → Prop) (M : Nat) (l : List Cor) (a : Option Addr) (cap : Nat) (w : World) (hc : Cc B0 w F a l) (hcap : l.length ≤ cap) (hok : okL l) (hsm : smCL l) (hs : sizL l + l.length ≤ 100000000) (hp : lamL l ≤ 1000000) (hl : lonL l ≤ 100000000) (h : MP B X M (.slice none 0 0) [] w) :
    Calls Tryz.prog 42 #[.pointer (some ⟨M, 0, none⟩), .slice a l.length cap] w fun r w' => r = .returned (.tuple #[]) ∧ ∃ pv' ps', ps'.map PE.pro = protosOf l ∧ MP B X M pv' ps' w' ∧ FP B M (.slice none 0 0) pv' w w' := by
  have hb0 : Below w.heap.size w ((w.alloc (.cells #[.pointer (some ⟨M, 0, none⟩)] 125)).alloc (.cells #[.slice a l.length cap] 37)) := ((Below.refl _ _).alloc (Nat.le_refl _) _).alloc (by simp) _
  have hbm : ((w.alloc (.cells #[.pointer (some ⟨M, 0, none⟩)] 125)).alloc (.cells #[.slice a l.length cap] 37)).heap[w.heap.size]? = some (.cells #[.pointer (some ⟨M, 0, none⟩)] 125 (0, 0)) := (Below.heap_alloc _ _ _ (by simp)).trans (World.alloc_heap_new w _)
  have hbl : ((w.alloc (.cells #[.pointer (some ⟨M, 0, none⟩)] 125)).alloc (.cells #[.slice a l.length cap] 37)).heap[w.heap.size + 1]? = some (.cells #[.slice a l.length cap] 37 (0, 0)) := by
    have := World.alloc_heap_new (w.alloc (.cells #[.pointer (some ⟨M, 0, none⟩)] 125)) (.cells #[.slice a l.length cap] 37)
    simpa using this
  have hgl := genB_len l (each_len l hok) 0 1
  have cm : ((w.alloc (.cells #[.pointer (some ⟨M, 0, none⟩)] 125)).alloc (.cells #[.slice a l.length cap] 37)).cell? ⟨w.heap.size, 0, none⟩ = some (.pointer (some ⟨M, 0, none⟩)) := (cellOf hbm).trans rfl
  have hml := h.mlt
  have mp0 := h.below hb0
  have CH := hidd (proto27_any B X M (.slice none 0 0) [] ((w.alloc (.cells #[.pointer (some ⟨M, 0, none⟩)] 125)).alloc (.cells #[.slice a l.length cap] 37)) 0 ⟨w.heap.size + 1, 0, none⟩ ⟨w.heap.size, 0, none⟩ (genB l 0 1) mp0 (by simp; omega) (by omega) (by
    intro W2 T2 pv2 mk2 keep hbl2
    have k1 := (keep (w.heap.size + 1) (Array.getElem?_eq_some_iff.1 hbl).1 ⟨by omega, by simp [Value.ownBlock]⟩).trans hbl
    have k2 := (keep w.heap.size (Array.getElem?_eq_some_iff.1 hbm).1 ⟨by omega, by simp [Value.ownBlock]⟩).trans hbm
    have := clos27_any B0 B F hB X T2 M _ pv2 [] _ l a cap (w.heap.size + 1) w.heap.size W2 (hc.below (((hb0.mono h.ble).trans hbl2).mono hB)) hcap k1 k2 hok hsm (by simp; omega) (by simp; omega) hl mk2
    simpa using this))
  have FB := hidd (FP.of_below (M := M) (pv := .slice none 0 0) hb0 h.ble)
  clear hc hok hsm h hgl mp0 hbm hbl hb0 hs hp hl
  go_enter Tryz.func42, Tryz.ntmps42
  go_wp2_with fail
  refine CH.out.mono ?_
  rintro e w2 ⟨_, pv2, ps2, hp2, mp2, fp2⟩
  have TO : Hid (∃ pv' ps', ps'.map PE.pro = protosOf l ∧ MP B X M pv' ps' w2 ∧ FP B M (.slice none 0 0) pv' w w2) := ⟨pv2, ps2, hp2, by simpa using mp2, FB.out.trans fp2⟩
  clear hp2 mp2 fp2 CH
  rename_i he9
  subst he9
  go_wp2_with fail
  go_end0
  exact ⟨rfl, TO.out⟩
end
section
set_option linter.unusedVariables false
set_option linter.unusedSimpArgs false

theorem chkL_right (g : Dat → Nat → Int × Nat) (hg : ∀ d n, n ≤ 2000 → (g d n).1 = 0 → smQ d ∧ n + 1 ≤ (g d n).2 ∧ (g d n).2 ≤ 2000) : ∀ (l : List Dat) (n : Nat), n ≤ 2000 → (chkL g l n).1 = 0 → smQL l ∧ n + l.length ≤ (chkL g l n).2 ∧ (chkL g l n).2 ≤ 2000
  | [], n, hn, _ => by rw [smQL, chkL]; exact ⟨trivial, Nat.le_refl _, hn⟩
  | d :: r, n, hn, h => by
    unfold chkL at h ⊢
    by_cases e : (g d n).1 = 0
    · rw [if_pos e] at h ⊢
      have h1 := hg d n hn e
      have h2 := chkL_right g hg r _ h1.2.2 h
      rw [smQL]
      refine ⟨⟨h1.1, h2.1⟩, ?_, h2.2.2⟩
      rw [List.length_cons]
      omega
    · rw [if_neg e] at h
      exact absurd h e
theorem chk_right : ∀ (f : Nat) (d : Dat) (n : Nat), n ≤ 2000 → (chk f d n).1 = 0 → smQ d ∧ n + 1 ≤ (chk f d n).2 ∧ (chk f d n).2 ≤ 2000
  | 0, d, n, _, h0 => by simp [chk] at h0
  | f + 1, d, n, h, h0 => by
    have hle := chk_le (f + 1) d n h h0
    refine ⟨?_, ?_, hle⟩
    · unfold chk at h0
      by_cases a : 2000 < n + 1
      · rw [if_pos a] at h0; simp at h0
      · rw [if_neg a] at h0
        by_cases b : alone d = 0
        · rw [if_pos b] at h0
          obtain ⟨k, m, nm, st, lb, ks⟩ := d
          rw [smQ]
          refine ⟨fun h3 => ?_, fun h4 => ?_⟩
          · subst h3
            unfold alone at b
            simp at b
            by_cases c : namedB nm = true
            · unfold namedB at c
              simp at c
              omega
            · simp [c] at b
          · simp only at h0
            rw [if_pos h4] at h0
            have h5 := chkL_right (chk f) (fun d n => chk_right f d n) ks (n + 1) (by omega) h0
            exact ⟨by omega, h5.1⟩
        · rw [if_neg b] at h0
          exact absurd h0 b
    · unfold chk at h0 ⊢
      by_cases a : 2000 < n + 1
      · rw [if_pos a] at h0; simp at h0
      · rw [if_neg a] at h0 ⊢
        by_cases b : alone d = 0
        · rw [if_pos b] at h0 ⊢
          by_cases c : d.kind = 4
          · rw [if_pos c] at h0 ⊢
            have h5 := chkL_right (chk f) (fun d n => chk_right f d n) d.kids (n + 1) (by omega) h0
            omega
          · rw [if_neg c]; exact Nat.le_refl _
        · rw [if_neg b] at h0
          exact absurd h0 b
theorem wrong_right {q : Dat} (h : (wrong [q]).1 = 0) : smQ q := by
  unfold wrong wrongFrom at h
  by_cases e : (chk 40 q 0).1 = 0
  · exact (chk_right 40 q 0 (by omega) e).1
  · rw [if_neg e] at h
    exact absurd h e

mutual
/-- Names that can be read. -/
def nmC : Cor → Prop
  | ⟨k, i, n, lb, ow, q, ks⟩ => lb.size ≤ 281474976710656 ∧ ow.size ≤ 281474976710656 ∧ nmL ks
def nmL : List Cor → Prop
  | [] => True
  | c :: r => nmC c ∧ nmL r
end
mutual
def nodC : Cor → Nat
  | ⟨k, i, n, lb, ow, q, ks⟩ => nodL ks + 1
def nodL : List Cor → Nat
  | [] => 0
  | c :: r => nodC c + nodL r
end
theorem len_nodL : ∀ (l : List Cor), l.length ≤ nodL l
  | [] => Nat.zero_le _
  | c :: r => by
    have h1 := len_nodL r
    obtain ⟨k, i, n, lb, ow, q, ks⟩ := c
    rw [nodL, nodC, List.length_cons]
    omega
mutual
theorem siz_nodC : ∀ (c : Cor), sizC c + 1 ≤ 3 * nodC c ∧ lamC c ≤ nodC c ∧ lonC c ≤ 3 * nodC c
  | ⟨k, i, n, lb, ow, q, ks⟩ => by
    have h := siz_nodL ks
    have h2 := len_nodL ks
    rw [sizC, lamC, lonC, nodC]
    refine ⟨?_, ?_, ?_⟩
    · split
      · omega
      · split
        · omega
        · split <;> omega
    · split <;> omega
    · split <;> omega
theorem siz_nodL : ∀ (l : List Cor), sizL l + l.length ≤ 3 * nodL l ∧ lamL l ≤ nodL l ∧ lonL l ≤ 3 * nodL l
  | [] => by rw [sizL, lamL, lonL, nodL]; simp
  | c :: r => by
    have h1 := siz_nodC c
    have h2 := siz_nodL r
    rw [sizL, lamL, lonL, nodL, List.length_cons]
    omega
end
theorem ckL_right (g : Cor → Nat → Int × Nat) (hg : ∀ c n, (g c n).1 = 0 → (nmC c → smC c) ∧ okC c ∧ (g c n).2 = n + nodC c) : ∀ (l : List Cor) (n : Nat), (ckL g l n).1 = 0 → (nmL l → smCL l) ∧ okL l ∧ (ckL g l n).2 = n + nodL l
  | [], n, _ => by rw [smCL, okL, ckL, nodL]; exact ⟨fun _ => trivial, trivial, rfl⟩
  | c :: r, n, h => by
    unfold ckL at h ⊢
    by_cases e : (g c n).1 = 0
    · rw [if_pos e] at h ⊢
      have h1 := hg c n e
      have h2 := ckL_right g hg r _ h
      rw [smCL, okL, nodL]
      refine ⟨fun hn => ?_, ⟨h1.2.1, h2.2.1⟩, by omega⟩
      rw [nmL] at hn
      exact ⟨h1.1 hn.1, h2.1 hn.2⟩
    · rw [if_neg e] at h
      exact absurd h e
theorem ckC_right : ∀ (f : Nat) (ar : Int) (c : Cor) (n : Nat), (ckC f ar c n).1 = 0 → (nmC c → smC c) ∧ okC c ∧ (ckC f ar c n).2 = n + nodC c
  | 0, ar, c, n, h => by simp [ckC] at h
  | f + 1, ar, c, n, h => by
    unfold ckC at h ⊢
    by_cases a : 3000 < n + 1
    · rw [if_pos a] at h; simp at h
    · rw [if_neg a] at h ⊢
      by_cases b : wkids c.kind c.kids.length = 0
      · rw [if_pos b] at h ⊢
        by_cases d : wfields c ar = 0
        · rw [if_pos d] at h ⊢
          have h1 := ckL_right (ckC f (if c.kind = 8 then ar + c.index else ar)) (ckC_right f _) c.kids (n + 1) h
          obtain ⟨k, i, m, lb, ow, q, ks⟩ := c
          simp only at h1 b
          rw [smC, okC, nodC, nmC]
          refine ⟨fun hn => ⟨hn.1, hn.2.1, fun h3 => ?_, h1.1 hn.2.2⟩, ⟨b, h1.2.1⟩, (by have h9 := h1.2.2; simp only; omega)⟩
          subst h3
          unfold wfields at d
          simp at d
          exact wrong_right d
        · rw [if_neg d] at h
          exact absurd h d
      · rw [if_neg b] at h
        exact absurd h b
theorem ckB_right : ∀ (l : List Cor), ckB l = 0 → (nmL l → smCL l) ∧ okL l ∧ nodL l ≤ 3000 * l.length
  | [], _ => by rw [smCL, okL, nodL]; exact ⟨fun _ => trivial, trivial, Nat.zero_le _⟩
  | c :: r, h => by
    unfold ckB at h
    by_cases e : (ckC 300 0 c 0).1 = 0
    · rw [if_pos e] at h
      have h1 := ckC_right 300 0 c 0 e
      have h2 := ckC_le 300 0 c 0 (by omega) e
      have h3 := ckB_right r h
      rw [smCL, okL, nodL, nmL, List.length_cons]
      exact ⟨fun hn => ⟨h1.1 hn.1, h3.1 hn.2⟩, ⟨h1.2.1, h3.2.1⟩, by omega⟩
    · rw [if_neg e] at h
      exact absurd h e
theorem wrongB_right {l : List Cor} (h : wrongB l = 0) (hn : nmL l) : smCL l ∧ okL l ∧ l.length ≤ 200 ∧ sizL l + l.length ≤ 1800000 ∧ lamL l ≤ 600000 ∧ lonL l ≤ 1800000 := by
  unfold wrongB at h
  by_cases e : 200 < l.length
  · rw [if_pos e] at h; simp at h
  · rw [if_neg e] at h
    have h1 := ckB_right l h
    have h2 := siz_nodL l
    exact ⟨h1.1 hn, h1.2.1, by omega, by omega, by omega, by omega⟩

/-- The longest procedure. -/
def Lon (c : Cor) : Prop := ∀ at0 pr x, (∃ p ∈ (genC c at0 pr).2, x < p.code.length) ↔ x < lonC c
theorem ex_append {x : Nat} (a b : List Pro) : (∃ p ∈ a ++ b, x < p.code.length) ↔ (∃ p ∈ a, x < p.code.length) ∨ (∃ p ∈ b, x < p.code.length) := by
  constructor
  · rintro ⟨p, hp, h⟩
    rcases List.mem_append.1 hp with hp | hp
    · exact Or.inl ⟨p, hp, h⟩
    · exact Or.inr ⟨p, hp, h⟩
  · rintro (⟨p, hp, h⟩ | ⟨p, hp, h⟩)
    · exact ⟨p, List.mem_append_left _ hp, h⟩
    · exact ⟨p, List.mem_append_right _ hp, h⟩
theorem lt_max' (x a b : Nat) : x < max a b ↔ x < a ∨ x < b := by omega
theorem genL_lon : ∀ (l : List Cor), (∀ c ∈ l, Lon c) → ∀ at0 pr x, (∃ p ∈ (genL l at0 pr).2, x < p.code.length) ↔ x < lonL l
  | [], _, at0, pr, x => by rw [genL, lonL]; simp
  | c :: r, h, at0, pr, x => by
    rw [genL, lonL]
    simp only
    rw [ex_append, lt_max', h c (by simp) at0 pr x, genL_lon r (fun c hc => h c (List.mem_cons_of_mem _ hc))]
theorem genS_lon : ∀ (l : List Cor) (b : Bool), (∀ c ∈ l, Lon c) → ∀ at0 pr x, (∃ p ∈ (genS l b at0 pr).2, x < p.code.length) ↔ x < lonL l
  | [], b, _, at0, pr, x => by rw [genS, lonL]; simp
  | c :: r, b, h, at0, pr, x => by
    rw [genS, lonL]
    simp only
    rw [ex_append, lt_max', h c (by simp), genS_lon r false (fun c hc => h c (List.mem_cons_of_mem _ hc))]
theorem genB_lon : ∀ (l : List Cor), (∀ c ∈ l, Lon c) → ∀ at0 pr x, (∃ p ∈ (genB l at0 pr).2, x < p.code.length) ↔ x < lonL l
  | [], _, at0, pr, x => by rw [genB, lonL]; simp
  | c :: r, h, at0, pr, x => by
    rw [genB, lonL]
    simp only
    rw [ex_append, lt_max', h c (by simp), genB_lon r (fun c hc => h c (List.mem_cons_of_mem _ hc))]
mutual
theorem genC_lon : ∀ (c : Cor), okC c → Lon c
  | ⟨k, i, n, lb, ow, q, ks⟩, h => by
    rw [okC] at h
    have E := each_lon ks h.2
    have EL := each_len ks h.2
    have hw := h.1
    intro at0 pr x
    by_cases h8 : k = 8
    · subst h8
      have := wk8 hw
      match ks, this, E, EL with
      | [b], _, E, EL =>
        have h1 := E b (by simp) 0 (pr + 1) x
        have h2 := EL b (by simp) 0 (pr + 1)
        rw [genC, lonC]
        simp only [if_true, lonL, sizL, Nat.max_zero, Nat.add_zero, List.mem_cons]
        rw [lt_max', ← h1]
        constructor
        · rintro ⟨p, rfl | hp, hx⟩
          · simp at hx
            omega
          · exact Or.inl ⟨p, hp, hx⟩
        · rintro (⟨p, hp, hx⟩ | hx)
          · exact ⟨p, Or.inr hp, hx⟩
          · exact ⟨_, Or.inl rfl, by simp; omega⟩
    · by_cases h7 : k = 7
      · subst h7
        have := wk7 hw
        match ks, this, E with
        | [a, b, c], _, E =>
          rw [genC, lonC]
          simp only [Int.reduceEq, if_false, if_true, lonL, Nat.max_zero]
          rw [ex_append, ex_append, lt_max', lt_max', E a (by simp), E b (by simp), E c (by simp)]
          exact or_assoc
      · by_cases h12 : k = 12
        · subst h12
          rw [genC.eq_def, lonC]
          simp only [Int.reduceEq, if_false, if_true, Nat.max_zero]
          exact genS_lon ks true E at0 pr x
        · rw [genC_else i n lb ow q ks at0 pr h8 h7 h12, lonC, if_neg h8, Nat.max_zero]
          exact genL_lon ks E at0 pr x
theorem each_lon : ∀ (l : List Cor), okL l → ∀ c ∈ l, Lon c
  | [], _, c, hc => by cases hc
  | x :: r, h, c, hc => by
    rw [okL] at h
    rcases List.mem_cons.1 hc with e | hc
    · rw [e]; exact genC_lon x h.1
    · exact each_lon r h.2 c hc
end
theorem much_eq (b : List Cor) (h : okL b) : mchB b = muchP (protosOf b) := by
  have h1 := genB_len b (each_len b h) 0 1
  have h2 := genB_lon b (each_lon b h) 0 1 6000
  unfold mchB muchP protosOf
  rw [Bool.eq_iff_iff]
  simp only [Bool.or_eq_true, decide_eq_true_eq, List.length_cons, List.any_cons, List.length_append, List.length_nil, List.any_eq_true, lt_max']
  rw [h1.1, h1.2, h2]
  omega
end
end Go.Proofs.YtfmanhkeclogfaaGreatDoor
