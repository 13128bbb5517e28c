/- The maker: core. -/
import Derived.Test.YtfmanhkeclogfaaGreatDoorK19
namespace Go.Proofs.YtfmanhkeclogfaaGreatDoor
set_option linter.unusedVariables false
set_option linter.unusedSimpArgs false
open Go.RowKit

theorem MK.frOf {B T M : Nat} {X : Nat → Prop} {tv pv : Value} {is : List IE} {ps : List PE} {w : World} (h : MK B X T M tv pv is ps w) {k : Nat} {cs : Array Value} {t : TypeId} (hk : w.heap[k]? = some (.cells cs t (0, 0))) (ht : t = 125 ∨ t = 129) : Fr T M tv pv k := by
  refine ⟨?_, ?_, ?_, ?_⟩
  · rintro rfl
    rw [h.tb] at hk
    rcases ht with rfl | rfl <;> simp at hk
  · rintro rfl
    rw [h.mb] at hk
    rcases ht with rfl | rfl <;> simp at hk
  · intro e
    rcases h.tr.2 with ⟨rfl, _⟩ | ⟨g, cap, cur, rfl, _, hg, _⟩
    · simp [Value.ownBlock] at e
    · have e2 : k = g := by simpa [Value.ownBlock] using e
      rw [e2, hg] at hk
      rcases ht with rfl | rfl <;> simp at hk
  · intro e
    rcases h.pr.2 with ⟨rfl, _⟩ | ⟨g, cap, cur, rfl, _, hg, _⟩
    · simp [Value.ownBlock] at e
    · have e2 : k = g := by simpa [Value.ownBlock] using e
      rw [e2, hg] at hk
      rcases ht with rfl | rfl <;> simp at hk
theorem MK.fresh {B T M : Nat} {X : Nat → Prop} {tv pv : Value} {is : List IE} {ps : List PE} {w : World} (h : MK B X T M tv pv is ps w) {k : Nat} (hk : w.heap.size ≤ k) : Fr T M tv pv k := by
  have h1 := h.tlt
  have h2 := h.mlt
  refine ⟨by omega, by omega, fun e => ?_, fun e => ?_⟩
  · have := (h.tr.lt k e.symm).2
    omega
  · have := (h.pr.lt k e.symm).2
    omega
theorem lastI_size {c : Cor} (h1 : c.lib.size ≤ maxLen) (h2 : c.own.size ≤ maxLen) (h3 : c.quote.name.size ≤ maxLen) : (lastI c).lib.size ≤ maxLen ∧ (lastI c).own.size ≤ maxLen ∧ (lastI c).quote.name.size ≤ maxLen := by
  have h4 := bareQ_name c.quote h3
  unfold lastI
  split
  · exact ⟨Nat.zero_le _, Nat.zero_le _, Nat.zero_le _⟩
  · split
    · exact ⟨Nat.zero_le _, Nat.zero_le _, Nat.zero_le _⟩
    · split
      · exact ⟨Nat.zero_le _, Nat.zero_le _, h4⟩
      · split
        · exact ⟨Nat.zero_le _, Nat.zero_le _, Nat.zero_le _⟩
        · split
          · exact ⟨Nat.zero_le _, Nat.zero_le _, Nat.zero_le _⟩
          · split
            · exact ⟨h1, h2, Nat.zero_le _⟩
            · split
              · exact ⟨h1, h2, Nat.zero_le _⟩
              · split
                · exact ⟨h1, h2, Nat.zero_le _⟩
                · split
                  · exact ⟨Nat.zero_le _, h2, Nat.zero_le _⟩
                  · exact ⟨Nat.zero_le _, Nat.zero_le _, Nat.zero_le _⟩
theorem cellOf {w : World} {N q : Nat} {cs : Array Value} {t : TypeId} (h : w.heap[N]? = some (.cells cs t (0, 0))) : w.cell? ⟨N, q, none⟩ = cs[q]? := by simp [World.cell?, h]

set_option maxRecDepth 100000 in
set_option maxHeartbeats 3200000 in
theorem core28 (B0 B F fq : Nat) (hB : B0 ≤ B) (X : Nat → Prop) (T M : Nat) (tv pv : Value) (is : List IE) (ps : List PE) (b o : Nat) (c : Cor) (w : World) (hcn : Cn B0 w fq b o c) (hkk : ∀ qa qc ka kc, Nc w b o c qa qc ka kc → Cc B0 w (F + 1) ka c.kids) (hC : c.kids ≠ [] → CoreW B0 B F)
    (hok : okC c) (hsm : smC c) (hs : is.length + sizC c ≤ 100000000) (hp : ps.length + lamC c ≤ 100000000) (hl : lonC c ≤ 100000000) (h : MK B X T M tv pv is ps w) :
    Calls Tryz.prog 72 #[.pointer (some ⟨M, 0, none⟩), .pointer (some ⟨T, 0, none⟩), .pointer (some ⟨b, o, none⟩)] w (ToldM B X T M tv pv is ps (genC c is.length ps.length) w) := by
  have CN0 := hidd hcn
  obtain ⟨hbB0, qa, qc, ka, kc, nc, ok, hqd, _⟩ := hcn
  have hk := hkk qa qc ka kc nc
  have hbB : b < B := Nat.lt_of_lt_of_le hbB0 hB
  have hble := h.ble
  have hbw : b < w.heap.size := Nat.lt_of_lt_of_le hbB hble
  have hb0 : Below w.heap.size w ((w.alloc (.cells #[.pointer (some ⟨M, 0, none⟩)] 125)).alloc (.cells #[.pointer (some ⟨b, o, none⟩)] 129)) := ((Below.refl _ _).alloc (Nat.le_refl _) _).alloc (by simp) _
  have FW0 := hidd (FR.of_below (T := T) (M := M) (tv := tv) (pv := pv) hb0 hble)
  have MW := hidd (h.below hb0)
  have c0 := (hb0.cell (p := ⟨b, o, none⟩) hbw).trans nc.c0
  have BX0 : Hid (Bx w.heap.size (w.heap.size + 1) M b o c.index ka c.kids.length kc ((w.alloc (.cells #[.pointer (some ⟨M, 0, none⟩)] 125)).alloc (.cells #[.pointer (some ⟨b, o, none⟩)] 129))) := ⟨(Below.heap_alloc _ _ _ (by simp)).trans (World.alloc_heap_new w _), by have := World.alloc_heap_new (w.alloc (.cells #[.pointer (some ⟨M, 0, none⟩)] 125)) (.cells #[.pointer (some ⟨b, o, none⟩)] 129); simpa using this, (hb0.cell (p := ⟨b, o + 1, none⟩) hbw).trans nc.c1, (hb0.cell (p := ⟨b, o + 11, none⟩) hbw).trans nc.c11⟩
  have hfm := hidd (MW.out.frOf BX0.out.bm (Or.inl rfl))
  have hfc := hidd (MW.out.frOf BX0.out.bc (Or.inr rfl))
  have hlen := hk.len
  have hkc : c.kids.length ≤ kc := ok.2.2.2.2
  have HB0 := hidd hb0
  have HK := hidd hk
  have HCW := hidd hC
  have HSM := hidd hsm
  have HOK := hidd hok
  have b0c : ((w.alloc (.cells #[.pointer (some ⟨M, 0, none⟩)] 125)).alloc (.cells #[.pointer (some ⟨b, o, none⟩)] 129)).cell? ⟨w.heap.size + 1, 0, none⟩ = some (.pointer (some ⟨b, o, none⟩)) := (cellOf BX0.out.bc).trans rfl
  have NOK := hidd ok
  clear nc ok hqd hk hkk hC hsm hok h hb0
  obtain ⟨G, hG⟩ : ∃ G, G = genC c is.length ps.length := ⟨_, rfl⟩
  rw [← hG]
  have HG := hidd hG.symm
  clear hG
  obtain ⟨k, i, n, lb, ow, q, ks⟩ := c
  simp only at c0 BX0 hlen hkc HK HCW
  have hil : is.length ≤ 100000000 := by omega
  by_cases h8 : k = 8
  · subst h8
    have hw1 := wk8 (okC_wk HOK.out)
    simp only at hw1
    match ks, hw1 with
    | [k0], _ =>
    have hne : [k0] ≠ [] := by simp
    obtain ⟨g', kb, ko, hg, hka, hall⟩ := HK.out.at hne
    obtain rfl : F = g' := by omega
    subst hka
    have CK := hidd (hall 0 k0 rfl)
    have hsz : sizC k0 + 1 ≤ 100000000 ∧ lonC k0 ≤ 100000000 := by rw [lonC, if_pos rfl] at hl; simp [lonL, sizL] at hl; omega
    have hlm : lamC ⟨8, i, n, lb, ow, q, [k0]⟩ = 1 + lamC k0 := by rw [lamC]; simp [lamL]
    rw [hlm] at hp
    have hgl := genC_len k0 (okL_at _ 0 k0 (okC_kids HOK.out) rfl) 0 (ps.length + 1)
    have hgen : genC ⟨8, i, n, lb, ow, q, [k0]⟩ is.length ps.length = ([insA 7 (ps.length : Int)], Pro.mk i ((genC k0 0 (ps.length + 1)).1 ++ [insO 15]) :: (genC k0 0 (ps.length + 1)).2) := by
      rw [genC]
      simp
    have hsm0 : smC k0 := by have := HSM.out; rw [smC] at this; exact smCL_at _ 0 k0 this.2.2.2 rfl
    have CH : Hid (∀ W, Bx w.heap.size (w.heap.size + 1) M b o i (some ⟨kb, ko, none⟩) 1 kc W → MK B X T M tv pv is ps W → Below B w W → Calls Tryz.prog 70 #[.pointer (some ⟨M, 0, none⟩), .int .i64 i, .func (.func 101) #[] #[.pointer (some ⟨w.heap.size, 0, none⟩), .pointer (some ⟨w.heap.size + 1, 0, none⟩)]] W fun r w' => r = .returned (.int .i64 ps.length) ∧ ∃ pv' ps', ps'.map PE.pro = Pro.mk i ((genC k0 0 (ps.length + 1)).1 ++ [insO 15]) :: (genC k0 0 (ps.length + 1)).2 ∧ MK B X T M tv pv' is (ps ++ ps') w' ∧ FR B T M tv pv tv pv' W w') := fun W hbx hmk hbl => by
      refine proto37_any B X T M tv pv is ps W i ⟨w.heap.size, 0, none⟩ ⟨w.heap.size + 1, 0, none⟩ (genC k0 0 (ps.length + 1)) hmk (by omega) (by omega) ?_
      intro W2 T2 pv2 mk2 keep hbl2
      have fm : Fr T M tv pv w.heap.size := hmk.frOf hbx.bm (Or.inl rfl)
      have fc : Fr T M tv pv (w.heap.size + 1) := hmk.frOf hbx.bc (Or.inr rfl)
      have bx2 : Bx w.heap.size (w.heap.size + 1) M b o i (some ⟨kb, ko, none⟩) 1 kc W2 := ⟨(keep _ (Array.getElem?_eq_some_iff.1 hbx.bm).1 fm).trans hbx.bm, (keep _ (Array.getElem?_eq_some_iff.1 hbx.bc).1 fc).trans hbx.bc, (hbl2.cell (p := ⟨b, o + 1, none⟩) hbB).trans hbx.i, (hbl2.cell (p := ⟨b, o + 11, none⟩) hbB).trans hbx.k⟩
      have hd : Below W2.heap.size W2 W2.drew := Below.drew (Below.refl _ _)
      refine clos37_any B _ T2 M _ pv2 [] _ _ w.heap.size (w.heap.size + 1) b o kb ko kc i W2 bx2 hkc (mk2.frOf bx2.bm (Or.inl rfl)) (mk2.frOf bx2.bc (Or.inr rfl)) hbB mk2.ble ?_
      have hcall := HCW.out hne _ T2 M _ pv2 [] _ kb (ko + 0 * 12) k0 W2.drew (CK.out.below ((hbl.trans (hbl2.trans (hd.mono mk2.ble))).mono hB)) (okL_at _ 0 k0 (okC_kids HOK.out) rfl) hsm0 (by simp; omega) (by simp; omega) hsz.2 (mk2.below hd)
      simpa using hcall
    have CH2 : Hid (∀ W, Bx w.heap.size (w.heap.size + 1) M b o i (some ⟨kb, ko, none⟩) 1 kc W → True) := fun _ _ => trivial
    rw [hgen] at HG
    have HDR := hidd (MW.out.below (Below.drew (Below.refl _ _)))
    clear CH2 hgen hgl hlm hl hs
    go_enter Tryz.func72, Tryz.ntmps72
    go_upto_region 9 with fail
    generalize ((w.alloc (.cells #[.pointer (some ⟨M, 0, none⟩)] 125)).alloc (.cells #[.pointer (some ⟨b, o, none⟩)] 129)) = W0 at FW0 MW HDR BX0 hfm hfc HB0 b0c c0 ⊢
    have FW : Hid (FR B T M tv pv tv pv w W0.drew) := FW0.out.trans (FR.of_below (Below.drew (Below.refl _ _)) MW.out.ble)
    have CH := hidd (CH.out W0.drew BX0.out.drew HDR.out FW.out.low)
    refine wp_region_held_drew (S := fun u => Bx w.heap.size (w.heap.size + 1) M b o i (some ⟨kb, ko, none⟩) 1 kc u) (by kernel_rfl) BX0.out.drew (fun hS => ?_)
    refine wpAnyH_take (i := 0) (oi := { dst := some 36, op := Op.load 125 (Operand.tmp 3), type := 125, pos := _, after := _, guard := none }) (v := .pointer (some ⟨M, 0, none⟩)) rfl (by kernel_rfl) (by kernel_rfl) (by kernel_rfl) (fun _ _ _ h => h) (Or.inl ⟨by rfl, fun u hu => by (have z : u.cell? ⟨w.heap.size, 0, none⟩ = some (.pointer (some ⟨M, 0, none⟩)) := (by simp [World.cell?, show u.heap[w.heap.size]? = _ from hu.bm]); go_simp)⟩) hS ?_
    simp only [Act.put, List.setIfInBounds_toArray, List.set_cons_zero, List.set_cons_succ]
    refine wpAnyH_take (i := 1) (oi := { dst := some 37, op := Op.load 129 (Operand.tmp 5), type := 129, pos := _, after := _, guard := none }) (v := .pointer (some ⟨b, o, none⟩)) rfl (by kernel_rfl) (by kernel_rfl) (by kernel_rfl) (fun _ _ _ h => h) (Or.inl ⟨by rfl, fun u hu => by (have z : u.cell? ⟨w.heap.size + 1, 0, none⟩ = some (.pointer (some ⟨b, o, none⟩)) := (by simp [World.cell?, show u.heap[w.heap.size + 1]? = _ from hu.bc]); go_simp)⟩) hS ?_
    simp only [Act.put, List.setIfInBounds_toArray, List.set_cons_zero, List.set_cons_succ]
    refine wpAnyH_take (i := 2) (oi := { dst := some 38, op := Op.nilCheck (Operand.tmp 37), type := 0, pos := _, after := _, guard := none }) (v := .pointer (some ⟨b, o, none⟩)) rfl (by kernel_rfl) (by kernel_rfl) (by kernel_rfl) (fun _ _ _ h => h) (Or.inl ⟨by rfl, fun u hu => by go_simp⟩) hS ?_
    simp only [Act.put, List.setIfInBounds_toArray, List.set_cons_zero, List.set_cons_succ]
    refine wpAnyH_take (i := 3) (oi := { dst := some 39, op := Op.fieldAddr 90 (Operand.tmp 38) 1, type := 0, pos := _, after := _, guard := none }) (v := .pointer (some ⟨b, o + 1, none⟩)) rfl (by kernel_rfl) (by kernel_rfl) (by kernel_rfl) (fun _ _ _ h => h) (Or.inl ⟨by rfl, fun u hu => by go_simp⟩) hS ?_
    simp only [Act.put, List.setIfInBounds_toArray, List.set_cons_zero, List.set_cons_succ]
    refine wpAnyH_take (i := 4) (oi := { dst := some 40, op := Op.load 3 (Operand.tmp 39), type := 3, pos := _, after := _, guard := none }) (v := .int .i64 i) rfl (by kernel_rfl) (by kernel_rfl) (by kernel_rfl) (fun _ _ _ h => h) (Or.inl ⟨by rfl, fun u hu => by (have z := hu.i; go_simp)⟩) hS ?_
    simp only [Act.put, List.setIfInBounds_toArray, List.set_cons_zero, List.set_cons_succ]
    refine wpAnyH_take (i := 5) (oi := { dst := some 41, op := Op.makeFunc (Fn.func 101) #[] #[Operand.tmp 3, Operand.tmp 5], type := 131, pos := _, after := _, guard := none }) (v := .func (.func 101) #[] #[.pointer (some ⟨w.heap.size, 0, none⟩), .pointer (some ⟨w.heap.size + 1, 0, none⟩)]) rfl (by kernel_rfl) (by kernel_rfl) (by kernel_rfl) (fun _ _ _ h => h) (Or.inl ⟨by rfl, fun u hu => by go_simp⟩) hS ?_
    simp only [Act.put, List.setIfInBounds_toArray, List.set_cons_zero, List.set_cons_succ]
    refine wpAnyH_ready (rs := [6]) (by kernel_rfl) (by simp) (AllReadyH.cons (o := { dst := some 42, op := Op.call { callee := Callee.value (Operand.func 70), args := #[Operand.tmp 36, Operand.tmp 40, Operand.tmp 41], argTypes := #[125, 3, 131] }, type := 3, pos := _, after := _, guard := none }) rfl (fun K hK => ?_) AllReadyH.nil)
    go_simp
    refine (CH.out).mono ?_
    rintro e w2 ⟨rfl, pv2, ps2, hp2, mk2, fr2⟩
    have hS2 := hS.next hfm.out hfc.out fr2 hbB
    have MK2 := hidd mk2
    have FR2 := hidd (FW.out.trans fr2)
    have HP2 := hidd hp2
    clear mk2 fr2 hp2
    show K _ w2
    refine hK.out _ _ hS2 (fun hS => ?_)
    clear hK K
    refine wpAnyH_take (i := 7) (oi := { dst := some 6, op := Op.assign (Operand.tmp 42), type := 3, pos := _, after := _, guard := none }) (v := .int .i64 ps.length) rfl (by kernel_rfl) (by kernel_rfl) (by kernel_rfl) (fun _ _ _ h => h) (Or.inl ⟨by rfl, fun u hu => by go_simp⟩) hS ?_
    simp only [Act.put, List.setIfInBounds_toArray, List.set_cons_zero, List.set_cons_succ]
    refine wpAnyH_done (by kernel_rfl) ?_ _
    have PU : Hid (Calls Tryz.prog 73 #[.pointer (some ⟨T, 0, none⟩), .agg #[.int .i64 7, .int .i64 ps.length, .int .i64 0, .string ⟨#[]⟩, .string ⟨#[]⟩, .int .i64 0, .int .i64 0, .string ⟨#[]⟩, .int .i64 0, .int .i64 0, .slice none 0 0]] w2 fun e w' => e = .returned (.int .i64 is.length) ∧ ∃ tv', MK B X T M tv' pv2 (is ++ [IE.mk (insA 7 ps.length) none 0]) (ps ++ ps2) w' ∧ FR B T M tv pv2 tv' pv2 w2 w') := put_any B X T M tv pv2 is (ps ++ ps2) w2 (insA 7 ps.length) none 0 MK2.out ⟨Nat.zero_le _, Nat.zero_le _, Nat.zero_le _, Nat.le_refl _, 0, rfl⟩ (by omega)
    clear hS
    go_wp2_with fail
    refine PU.out.mono ?_
    rintro e w3 ⟨rfl, tv3, mk3, fr3⟩
    have TO : Hid (ToldM B X T M tv pv is ps G w (.returned (.tuple #[])) w3) := by
      show ToldM _ _ _ _ _ _ _ _ _ _ _ _
      rw [← HG.out]
      exact ⟨rfl, tv3, pv2, [IE.mk (insA 7 ps.length) none 0], ps2, rfl, HP2.out, mk3, FR2.out.trans fr3⟩
    clear mk3 fr3 PU
    go_wp2_with fail
    go_end0
    exact TO.out
  by_cases h7 : k = 7
  · subst h7
    have hw1 := wk7 (okC_wk HOK.out)
    simp only at hw1
    match ks, hw1 with
    | [x, y, z], _ =>
    have hne : [x, y, z] ≠ [] := by simp
    have hsm0 : smCL [x, y, z] := by have := HSM.out; rw [smC] at this; exact this.2.2.2
    have hok0 := okC_kids HOK.out
    simp only at hok0
    rw [sizC, if_neg (by decide), if_pos rfl] at hs
    rw [lamC, if_neg (by decide)] at hp
    rw [lonC, if_neg (by decide)] at hl
    have CH : Hid (∀ W, MK B X T M tv pv is ps W → Below B w W → Calls Tryz.prog 102 #[.pointer (some ⟨M, 0, none⟩), .pointer (some ⟨T, 0, none⟩), .slice ka 3 kc] W (ToldM B X T M tv pv is ps G W)) := fun W hmk hbl => by
      have := choice_any B0 B F hB (HCW.out hne) X T M tv pv is ps x y z ka kc W (HK.out.below (hbl.mono hB)) hkc hok0 hsm0 (by omega) (by omega) (by omega) hmk i n lb ow q
      rw [HG.out] at this
      exact this
    have HDR := hidd (MW.out.below (Below.drew (Below.refl _ _)))
    clear hs hp hl hsm0 hok0
    go_enter Tryz.func72, Tryz.ntmps72
    go_upto_region 12 with fail
    generalize ((w.alloc (.cells #[.pointer (some ⟨M, 0, none⟩)] 125)).alloc (.cells #[.pointer (some ⟨b, o, none⟩)] 129)) = W0 at FW0 MW HDR BX0 hfm hfc HB0 b0c c0 ⊢
    have FW : Hid (FR B T M tv pv tv pv w W0.drew) := FW0.out.trans (FR.of_below (Below.drew (Below.refl _ _)) MW.out.ble)
    have CH := hidd (CH.out W0.drew HDR.out FW.out.low)
    refine wp_region_held_drew (S := fun u => Bx w.heap.size (w.heap.size + 1) M b o i ka 3 kc u) (by kernel_rfl) BX0.out.drew (fun hS => ?_)
    refine wpAnyH_take (i := 0) (oi := { dst := some 49, op := Op.load 125 (Operand.tmp 3), type := 125, pos := _, after := _, guard := none }) (v := .pointer (some ⟨M, 0, none⟩)) rfl (by kernel_rfl) (by kernel_rfl) (by kernel_rfl) (fun _ _ _ h => h) (Or.inl ⟨by rfl, fun u hu => by (have z : u.cell? ⟨w.heap.size, 0, none⟩ = some (.pointer (some ⟨M, 0, none⟩)) := (by simp [World.cell?, show u.heap[w.heap.size]? = _ from hu.bm]); go_simp)⟩) hS ?_
    simp only [Act.put, List.setIfInBounds_toArray, List.set_cons_zero, List.set_cons_succ]
    refine wpAnyH_take (i := 1) (oi := { dst := some 50, op := Op.move (Operand.tmp 1), type := 127, pos := _, after := _, guard := none }) (v := .pointer (some ⟨T, 0, none⟩)) rfl (by kernel_rfl) (by kernel_rfl) (by kernel_rfl) (fun _ _ _ h => h) (Or.inl ⟨by rfl, fun u hu => by go_simp⟩) hS ?_
    simp only [Act.put, List.setIfInBounds_toArray, List.set_cons_zero, List.set_cons_succ]
    refine wpAnyH_take (i := 2) (oi := { dst := some 51, op := Op.load 129 (Operand.tmp 5), type := 129, pos := _, after := _, guard := none }) (v := .pointer (some ⟨b, o, none⟩)) rfl (by kernel_rfl) (by kernel_rfl) (by kernel_rfl) (fun _ _ _ h => h) (Or.inl ⟨by rfl, fun u hu => by (have z : u.cell? ⟨w.heap.size + 1, 0, none⟩ = some (.pointer (some ⟨b, o, none⟩)) := (by simp [World.cell?, show u.heap[w.heap.size + 1]? = _ from hu.bc]); go_simp)⟩) hS ?_
    simp only [Act.put, List.setIfInBounds_toArray, List.set_cons_zero, List.set_cons_succ]
    refine wpAnyH_take (i := 3) (oi := { dst := some 52, op := Op.nilCheck (Operand.tmp 51), type := 0, pos := _, after := _, guard := none }) (v := .pointer (some ⟨b, o, none⟩)) rfl (by kernel_rfl) (by kernel_rfl) (by kernel_rfl) (fun _ _ _ h => h) (Or.inl ⟨by rfl, fun u hu => by go_simp⟩) hS ?_
    simp only [Act.put, List.setIfInBounds_toArray, List.set_cons_zero, List.set_cons_succ]
    refine wpAnyH_take (i := 4) (oi := { dst := some 53, op := Op.fieldAddr 90 (Operand.tmp 52) 6, type := 0, pos := _, after := _, guard := none }) (v := .pointer (some ⟨b, o + 11, none⟩)) rfl (by kernel_rfl) (by kernel_rfl) (by kernel_rfl) (fun _ _ _ h => h) (Or.inl ⟨by rfl, fun u hu => by go_simp⟩) hS ?_
    simp only [Act.put, List.setIfInBounds_toArray, List.set_cons_zero, List.set_cons_succ]
    refine wpAnyH_take (i := 5) (oi := { dst := some 54, op := Op.load 37 (Operand.tmp 53), type := 37, pos := _, after := _, guard := none }) (v := .slice ka 3 kc) rfl (by kernel_rfl) (by kernel_rfl) (by kernel_rfl) (fun _ _ _ h => h) (Or.inl ⟨by rfl, fun u hu => by (have z := hu.k; go_simp)⟩) hS ?_
    simp only [Act.put, List.setIfInBounds_toArray, List.set_cons_zero, List.set_cons_succ]
    refine wpAnyH_ready (rs := [6]) (by kernel_rfl) (by simp) (AllReadyH.cons (o := { dst := some 55, op := Op.call { callee := Callee.value (Operand.func 102), args := #[Operand.tmp 49, Operand.tmp 50, Operand.tmp 54], argTypes := #[125, 127, 37] }, type := 0, pos := _, after := _, guard := none }) rfl (fun K hK => ?_) AllReadyH.nil)
    go_simp
    refine (CH.out).mono ?_
    rintro e w2 hto
    obtain ⟨rfl, tv2, pv2, is2, ps2, hi2, hp2, mk2, fr2⟩ := hto
    have hS2 := hS.next hfm.out hfc.out fr2 hbB
    have TO : Hid (ToldM B X T M tv pv is ps G w (.returned (.tuple #[])) w2) := ⟨rfl, tv2, pv2, is2, ps2, hi2, hp2, mk2, FW.out.trans fr2⟩
    clear hi2 hp2 mk2 fr2
    show K _ w2
    refine hK.out _ _ hS2 (fun hS => ?_)
    clear hK K
    refine wpAnyH_done (by kernel_rfl) ?_ _
    go_wp2_with fail
    go_end0
    exact TO.out
  by_cases h12 : k = 12
  · subst h12
    have hw1 := wk12 (okC_wk HOK.out)
    simp only at hw1
    have hne : ks ≠ [] := by intro e; rw [e] at hw1; simp at hw1
    have hsm0 : smCL ks := by have := HSM.out; rw [smC] at this; exact this.2.2.2
    have hok0 := okC_kids HOK.out
    simp only at hok0
    rw [sizC, if_neg (by decide), if_neg (by decide), if_pos rfl] at hs
    rw [lamC, if_neg (by decide)] at hp
    rw [lonC, if_neg (by decide)] at hl
    have CH : Hid (∀ W, MK B X T M tv pv is ps W → Below B w W → Calls Tryz.prog 103 #[.pointer (some ⟨M, 0, none⟩), .pointer (some ⟨T, 0, none⟩), .slice ka ks.length kc] W (ToldM B X T M tv pv is ps G W)) := fun W hmk hbl => by
      have := sequence_any B0 B F hB (HCW.out hne) X T M tv pv is ps ks ka kc W (HK.out.below (hbl.mono hB)) hkc hok0 hsm0 (by omega) (by omega) (by omega) hmk
      have hgen : genC ⟨12, i, n, lb, ow, q, ks⟩ is.length ps.length = genS ks true is.length ps.length := by
        rw [genC.eq_def]
        simp
      rw [← hgen, HG.out] at this
      exact this
    have HDR := hidd (MW.out.below (Below.drew (Below.refl _ _)))
    clear hs hp hl hsm0 hok0
    go_enter Tryz.func72, Tryz.ntmps72
    go_upto_region 14 with fail
    generalize ((w.alloc (.cells #[.pointer (some ⟨M, 0, none⟩)] 125)).alloc (.cells #[.pointer (some ⟨b, o, none⟩)] 129)) = W0 at FW0 MW HDR BX0 hfm hfc HB0 b0c c0 ⊢
    have FW : Hid (FR B T M tv pv tv pv w W0.drew) := FW0.out.trans (FR.of_below (Below.drew (Below.refl _ _)) MW.out.ble)
    have CH := hidd (CH.out W0.drew HDR.out FW.out.low)
    refine wp_region_held_drew (S := fun u => Bx w.heap.size (w.heap.size + 1) M b o i ka ks.length kc u) (by kernel_rfl) BX0.out.drew (fun hS => ?_)
    refine wpAnyH_take (i := 0) (oi := { dst := some 58, op := Op.load 125 (Operand.tmp 3), type := 125, pos := _, after := _, guard := none }) (v := .pointer (some ⟨M, 0, none⟩)) rfl (by kernel_rfl) (by kernel_rfl) (by kernel_rfl) (fun _ _ _ h => h) (Or.inl ⟨by rfl, fun u hu => by (have z : u.cell? ⟨w.heap.size, 0, none⟩ = some (.pointer (some ⟨M, 0, none⟩)) := (by simp [World.cell?, show u.heap[w.heap.size]? = _ from hu.bm]); go_simp)⟩) hS ?_
    simp only [Act.put, List.setIfInBounds_toArray, List.set_cons_zero, List.set_cons_succ]
    refine wpAnyH_take (i := 1) (oi := { dst := some 59, op := Op.move (Operand.tmp 1), type := 127, pos := _, after := _, guard := none }) (v := .pointer (some ⟨T, 0, none⟩)) rfl (by kernel_rfl) (by kernel_rfl) (by kernel_rfl) (fun _ _ _ h => h) (Or.inl ⟨by rfl, fun u hu => by go_simp⟩) hS ?_
    simp only [Act.put, List.setIfInBounds_toArray, List.set_cons_zero, List.set_cons_succ]
    refine wpAnyH_take (i := 2) (oi := { dst := some 60, op := Op.load 129 (Operand.tmp 5), type := 129, pos := _, after := _, guard := none }) (v := .pointer (some ⟨b, o, none⟩)) rfl (by kernel_rfl) (by kernel_rfl) (by kernel_rfl) (fun _ _ _ h => h) (Or.inl ⟨by rfl, fun u hu => by (have z : u.cell? ⟨w.heap.size + 1, 0, none⟩ = some (.pointer (some ⟨b, o, none⟩)) := (by simp [World.cell?, show u.heap[w.heap.size + 1]? = _ from hu.bc]); go_simp)⟩) hS ?_
    simp only [Act.put, List.setIfInBounds_toArray, List.set_cons_zero, List.set_cons_succ]
    refine wpAnyH_take (i := 3) (oi := { dst := some 61, op := Op.nilCheck (Operand.tmp 60), type := 0, pos := _, after := _, guard := none }) (v := .pointer (some ⟨b, o, none⟩)) rfl (by kernel_rfl) (by kernel_rfl) (by kernel_rfl) (fun _ _ _ h => h) (Or.inl ⟨by rfl, fun u hu => by go_simp⟩) hS ?_
    simp only [Act.put, List.setIfInBounds_toArray, List.set_cons_zero, List.set_cons_succ]
    refine wpAnyH_take (i := 4) (oi := { dst := some 62, op := Op.fieldAddr 90 (Operand.tmp 61) 6, type := 0, pos := _, after := _, guard := none }) (v := .pointer (some ⟨b, o + 11, none⟩)) rfl (by kernel_rfl) (by kernel_rfl) (by kernel_rfl) (fun _ _ _ h => h) (Or.inl ⟨by rfl, fun u hu => by go_simp⟩) hS ?_
    simp only [Act.put, List.setIfInBounds_toArray, List.set_cons_zero, List.set_cons_succ]
    refine wpAnyH_take (i := 5) (oi := { dst := some 63, op := Op.load 37 (Operand.tmp 62), type := 37, pos := _, after := _, guard := none }) (v := .slice ka ks.length kc) rfl (by kernel_rfl) (by kernel_rfl) (by kernel_rfl) (fun _ _ _ h => h) (Or.inl ⟨by rfl, fun u hu => by (have z := hu.k; go_simp)⟩) hS ?_
    simp only [Act.put, List.setIfInBounds_toArray, List.set_cons_zero, List.set_cons_succ]
    refine wpAnyH_ready (rs := [6]) (by kernel_rfl) (by simp) (AllReadyH.cons (o := { dst := some 64, op := Op.call { callee := Callee.value (Operand.func 103), args := #[Operand.tmp 58, Operand.tmp 59, Operand.tmp 63], argTypes := #[125, 127, 37] }, type := 0, pos := _, after := _, guard := none }) rfl (fun K hK => ?_) AllReadyH.nil)
    go_simp
    refine (CH.out).mono ?_
    rintro e w2 hto
    obtain ⟨rfl, tv2, pv2, is2, ps2, hi2, hp2, mk2, fr2⟩ := hto
    have hS2 := hS.next hfm.out hfc.out fr2 hbB
    have TO : Hid (ToldM B X T M tv pv is ps G w (.returned (.tuple #[])) w2) := ⟨rfl, tv2, pv2, is2, ps2, hi2, hp2, mk2, FW.out.trans fr2⟩
    clear hi2 hp2 mk2 fr2
    show K _ w2
    refine hK.out _ _ hS2 (fun hS => ?_)
    clear hK K
    refine wpAnyH_done (by kernel_rfl) ?_ _
    go_wp2_with fail
    go_end0
    exact TO.out
  have j8 : (k == 8) = false := by simpa using h8
  have j7 : (k == 7) = false := by simpa using h7
  have j12 : (k == 12) = false := by simpa using h12
  have hsm0 := HSM.out
  rw [smC] at hsm0
  have hok0 := okC_kids HOK.out
  simp only at hok0
  rw [sizC, if_neg h8, if_neg h7, if_neg h12] at hs
  rw [lamC, if_neg h8] at hp
  rw [lonC, if_neg h8] at hl
  have HGE : Hid (G = ((genL ks is.length ps.length).1 ++ [lastI ⟨k, i, n, lb, ow, q, ks⟩], (genL ks is.length ps.length).2)) := by
    show G = _
    rw [← HG.out]
    exact genC_else i n lb ow q ks is.length ps.length h8 h7 h12
  have HO : Hid (okL ks ∧ smCL ks ∧ (∀ c ∈ ks, Len c) ∧ lonL ks ≤ 100000000 ∧ lb.size ≤ 281474976710656 ∧ ow.size ≤ 281474976710656 ∧ (k = 3 → smQ q)) := ⟨hok0, hsm0.2.2.2, each_len ks hok0, by omega, hsm0.1, hsm0.2.1, hsm0.2.2.1⟩
  have hs' : is.length + sizL ks + 1 ≤ 100000000 := by omega
  have hp' : ps.length + lamL ks ≤ 100000000 := by omega
  clear hok0 hsm0 hs hp hl h8 h7 h12 HG HOK HSM
  go_enter Tryz.func72, Tryz.ntmps72
  have mc11 := BX0.out.k
  go_upto_region 2 with fail
  generalize ((w.alloc (.cells #[.pointer (some ⟨M, 0, none⟩)] 125)).alloc (.cells #[.pointer (some ⟨b, o, none⟩)] 129)) = W0 at FW0 MW BX0 hfm hfc HB0 b0c c0 mc11 ⊢
  have WY0 : Hid (Way B X T M tv pv is ps (genL (ks.take 0) is.length ps.length) W0 W0 tv pv [] []) := ⟨by simp [genL], by simp [genL], by simpa using MW.out, FR.refl _ _ _ _ _ _⟩
  go_wp2_with fail
  go_loopw [17] (fun ix wr => ∃ (j : Nat) (tv' pv' : Value) (is' : List IE) (ps' : List PE), j ≤ ks.length ∧ ix = .int .i64 j ∧ Hid (Way B X T M tv pv is ps (genL (ks.take j) is.length ps.length) W0 wr tv' pv' is' ps')) (fun ix _ => ks.length - (intOf ix).toNat)
  case atStart => exact ⟨0, tv, pv, [], [], Nat.zero_le _, rfl, WY0.out⟩
  case round =>
    clear WY0 c0 mc11 b0c
    obtain ⟨j, tv1, pv1, is1, ps1, hj, rfl, HW⟩ := hrel
    have HBR := hidd (BX0.out.next hfm.out hfc.out HW.out.fr hbB)
    by_cases hlt : j < ks.length
    · obtain ⟨c, hc⟩ : ∃ c, ks[j]? = some c := ⟨ks[j], List.getElem?_eq_getElem hlt⟩
      have hne : ks ≠ [] := by intro e; rw [e] at hlt; simp at hlt
      obtain ⟨g', kb, ko, hg, hka, hall⟩ := HK.out.at hne
      obtain rfl : F = g' := by omega
      subst hka
      have b1 := sizL_more hc
      have b2 := lamL_more hc
      have t1 := sizL_take ks (j + 1)
      have t2 := lamL_take ks (j + 1)
      have t3 := lonL_mem hc
      have li := HW.out.li
      have lp := HW.out.lp
      have hll := genL_len (ks.take j) (fun x hx => HO.out.2.2.1 x (List.mem_of_mem_take hx)) is.length ps.length
      have hl9 := HO.out.2.2.2.1
      have GM := hidd (genL_more hc is.length ps.length)
      have hd : Below wr.heap.size wr wr.drew := Below.drew (Below.refl _ _)
      have CALL := hidd (HCW.out hne X T M tv1 pv1 (is ++ is1) (ps ++ ps1) kb (ko + j * 12) c wr.drew ((hall j c hc).below ((FW0.out.low.trans (HW.out.fr.low.trans (hd.mono HW.out.mm.ble))).mono hB)) (okL_at _ j c HO.out.1 hc) (smCL_at _ j c HO.out.2.1 hc) (by omega) (by omega) (by omega) (HW.out.mm.below hd))
      have HBX := BX0
      clear b1 b2 t1 t2 t3 li lp hll hl9 hall hc hd
      go_upto_region 5 with fail
      refine wp_region_held_drew (S := fun u => Bx w.heap.size (w.heap.size + 1) M b o i (some ⟨kb, ko, none⟩) ks.length kc u) (by kernel_rfl) HBR.out.drew (fun hS => ?_)
      refine wpAnyH_take (i := 0) (oi := { dst := some 20, op := Op.load 125 (Operand.tmp 3), type := 125, pos := _, after := _, guard := none }) (v := .pointer (some ⟨M, 0, none⟩)) rfl (by kernel_rfl) (by kernel_rfl) (by kernel_rfl) (fun _ _ _ h => h) (Or.inl ⟨by rfl, fun u hu => by (have z : u.cell? ⟨w.heap.size, 0, none⟩ = some (.pointer (some ⟨M, 0, none⟩)) := (by simp [World.cell?, show u.heap[w.heap.size]? = _ from hu.bm]); go_simp)⟩) hS ?_
      simp only [Act.put, List.setIfInBounds_toArray, List.set_cons_zero, List.set_cons_succ]
      refine wpAnyH_take (i := 1) (oi := { dst := some 21, op := Op.move (Operand.tmp 1), type := 127, pos := _, after := _, guard := none }) (v := .pointer (some ⟨T, 0, none⟩)) rfl (by kernel_rfl) (by kernel_rfl) (by kernel_rfl) (fun _ _ _ h => h) (Or.inl ⟨by rfl, fun u hu => by go_simp⟩) hS ?_
      simp only [Act.put, List.setIfInBounds_toArray, List.set_cons_zero, List.set_cons_succ]
      refine wpAnyH_take (i := 2) (oi := { dst := some 22, op := Op.load 129 (Operand.tmp 5), type := 129, pos := _, after := _, guard := none }) (v := .pointer (some ⟨b, o, none⟩)) rfl (by kernel_rfl) (by kernel_rfl) (by kernel_rfl) (fun _ _ _ h => h) (Or.inl ⟨by rfl, fun u hu => by (have z : u.cell? ⟨w.heap.size + 1, 0, none⟩ = some (.pointer (some ⟨b, o, none⟩)) := (by simp [World.cell?, show u.heap[w.heap.size + 1]? = _ from hu.bc]); go_simp)⟩) hS ?_
      simp only [Act.put, List.setIfInBounds_toArray, List.set_cons_zero, List.set_cons_succ]
      refine wpAnyH_take (i := 3) (oi := { dst := some 23, op := Op.nilCheck (Operand.tmp 22), type := 0, pos := _, after := _, guard := none }) (v := .pointer (some ⟨b, o, none⟩)) rfl (by kernel_rfl) (by kernel_rfl) (by kernel_rfl) (fun _ _ _ h => h) (Or.inl ⟨by rfl, fun u hu => by go_simp⟩) hS ?_
      simp only [Act.put, List.setIfInBounds_toArray, List.set_cons_zero, List.set_cons_succ]
      refine wpAnyH_take (i := 4) (oi := { dst := some 24, op := Op.fieldAddr 90 (Operand.tmp 23) 6, type := 0, pos := _, after := _, guard := none }) (v := .pointer (some ⟨b, o + 11, none⟩)) rfl (by kernel_rfl) (by kernel_rfl) (by kernel_rfl) (fun _ _ _ h => h) (Or.inl ⟨by rfl, fun u hu => by go_simp⟩) hS ?_
      simp only [Act.put, List.setIfInBounds_toArray, List.set_cons_zero, List.set_cons_succ]
      refine wpAnyH_take (i := 5) (oi := { dst := some 25, op := Op.load 37 (Operand.tmp 24), type := 37, pos := _, after := _, guard := none }) (v := .slice (some ⟨kb, ko, none⟩) ks.length kc) rfl (by kernel_rfl) (by kernel_rfl) (by kernel_rfl) (fun _ _ _ h => h) (Or.inl ⟨by rfl, fun u hu => by (have z := hu.k; go_simp)⟩) hS ?_
      simp only [Act.put, List.setIfInBounds_toArray, List.set_cons_zero, List.set_cons_succ]
      refine wpAnyH_take (i := 6) (oi := { dst := some 26, op := Op.move (Operand.tmp 7), type := 3, pos := _, after := _, guard := none }) (v := .int .i64 j) rfl (by kernel_rfl) (by kernel_rfl) (by kernel_rfl) (fun _ _ _ h => h) (Or.inl ⟨by rfl, fun u hu => by go_simp⟩) hS ?_
      simp only [Act.put, List.setIfInBounds_toArray, List.set_cons_zero, List.set_cons_succ]
      refine wpAnyH_take (i := 7) (oi := { dst := some 27, op := Op.indexAddr 37 (Operand.tmp 25) (Operand.tmp 26), type := 0, pos := _, after := _, guard := none }) (v := .pointer (some ⟨kb, ko + j * 12, none⟩)) rfl (by kernel_rfl) (by kernel_rfl) (by kernel_rfl) (fun _ _ _ h => h) (Or.inl ⟨by rfl, fun u hu => by go_simp⟩) hS ?_
      simp only [Act.put, List.setIfInBounds_toArray, List.set_cons_zero, List.set_cons_succ]
      refine wpAnyH_ready (rs := [8]) (by kernel_rfl) (by simp) (AllReadyH.cons (o := { dst := some 28, op := Op.call { callee := Callee.value (Operand.func 72), args := #[Operand.tmp 20, Operand.tmp 21, Operand.tmp 27], argTypes := #[125, 127, 129] }, type := 0, pos := _, after := _, guard := none }) rfl (fun K hK => ?_) AllReadyH.nil)
      go_simp
      refine CALL.out.mono ?_
      rintro e w2 ⟨rfl, tv2, pv2, is2, ps2, hi2, hp2, mk2, fr2⟩
      have F2 := HW.out.fr.trans ((FR.of_below (Below.drew (Below.refl _ _)) HW.out.mm.ble).trans fr2)
      have hS2 : Bx w.heap.size (w.heap.size + 1) M b o i (some ⟨kb, ko, none⟩) ks.length kc w2 := HBX.out.next hfm.out hfc.out F2 hbB
      have HW2 : Hid (Way B X T M tv pv is ps (genL (ks.take (j + 1)) is.length ps.length) W0 w2 tv2 pv2 (is1 ++ is2) (ps1 ++ ps2)) := by
        show Way _ _ _ _ _ _ _ _ _ _ _ _ _ _ _
        rw [HW.out.li, HW.out.lp] at hi2 hp2
        rw [GM.out]
        refine ⟨?_, ?_, by simpa using mk2, F2⟩
        · simp only [List.map_append, HW.out.hi, hi2]
        · simp only [List.map_append, HW.out.hp, hp2]
      clear hi2 hp2 mk2 fr2 F2
      show K _ w2
      refine hK.out _ _ hS2 (fun hS => ?_)
      clear hK K
      refine wpAnyH_done (by kernel_rfl) ?_ _
      clear hS
      go_wp2_with fail
      go_roundw
      case rel => exact ⟨j + 1, _, _, _, _, by omega, by go_num, HW2.out⟩
      case measure => simp [intOf]; omega
    · obtain rfl : j = ks.length := by omega
      rw [List.take_length] at HW
      have hll := genL_len ks HO.out.2.2.1 is.length ps.length
      have li := HW.out.li
      have FA := hidd (FW0.out.trans HW.out.fr)
      have nb := (cellOf (q := 0) HBR.out.bc).trans rfl
      have LA := hidd (last_any B0 fq b o ⟨k, i, n, lb, ow, q, ks⟩ wr (CN0.out.below (FA.out.low.mono hB)) (Nat.le_trans hB HW.out.mm.ble) HO.out.2.2.2.2.1 HO.out.2.2.2.2.2.1 HO.out.2.2.2.2.2.2)
      have LN : Hid ((lastI ⟨k, i, n, lb, ow, q, ks⟩).lib.size ≤ maxLen ∧ (lastI ⟨k, i, n, lb, ow, q, ks⟩).own.size ≤ maxLen ∧ (lastI ⟨k, i, n, lb, ow, q, ks⟩).quote.name.size ≤ maxLen) := lastI_size NOK.out.1 NOK.out.2.1 NOK.out.2.2.1
      generalize lastI ⟨k, i, n, lb, ow, q, ks⟩ = la at LA LN HGE
      clear HK HCW HO CN0 NOK
      simp at nb
      go_wp2_with fail
      refine LA.out.mono ?_
      rintro e w2 ⟨hb2, qa2, qc2, f2, rfl, hqc2, hdc2⟩
      have mk2 := HW.out.mm.below hb2
      have F2 := hidd (FA.out.trans (FR.of_below (T := T) (M := M) (tv := tv1) (pv := pv1) hb2 HW.out.mm.ble))
      have PU := hidd (put_any B X T M tv1 pv1 (is ++ is1) (ps ++ ps1) w2 la qa2 qc2 mk2 ⟨LN.out.1, LN.out.2.1, LN.out.2.2, hqc2, f2, Dc.stay (fun _ _ => rfl) (fun k hk => ⟨hk.2, HW.out.mm.fresh hk.1, fun hx => by have := HW.out.mm.xlt k hx; have := hk.1; omega⟩) _ _ _ hdc2⟩ (by omega))
      unfold iv ic at PU
      unfold iv ic
      clear hb2 hqc2 hdc2 mk2 LA nb
      go_wp2_with fail
      refine PU.out.mono ?_
      rintro e w3 ⟨_, tv3, mk3, fr3⟩
      have TO : Hid (ToldM B X T M tv pv is ps G w (.returned (.tuple #[])) w3) := by
        show ToldM _ _ _ _ _ _ _ _ _ _ _ _
        rw [HGE.out]
        refine ⟨rfl, tv3, pv1, is1 ++ [IE.mk la qa2 qc2], ps1, ?_, HW.out.hp, by simpa using mk3, F2.out.trans fr3⟩
        simp only [List.map_append, HW.out.hi]
        rfl
      clear mk3 fr3 PU
      rename_i he9
      subst he9
      go_wp2_with fail
      go_end0
      exact TO.out
end Go.Proofs.YtfmanhkeclogfaaGreatDoor
