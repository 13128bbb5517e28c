/- Chapter 9: the reader: a unit. Chapter 9: bytes as a unit: package object's Parse. -/
import Derived.Test.YtdnbingddbakaaaGreatDoorK31
namespace Go.Proofs.YtdnbingddbakaaaGreatDoor
section
set_option linter.unusedVariables false
set_option linter.unusedSimpArgs false
open Go.RowKit

def protosR (qr : QR) : Nat → List UInt8 → Bool → Option (List Pro × List UInt8 × Bool)
  | 0, l, bad => some ([], l, bad)
  | n + 1, l, bad => match protoR qr l bad with
    | none => none
    | some x => if x.2.2 = true then some ([x.1], x.2.1, true) else (protosR qr n x.2.1 x.2.2).map fun r => (x.1 :: r.1, r.2)
def unitR (qr : QR) (l : List UInt8) (bad : Bool) : Option ((ByteArray × List Pro) × List UInt8 × Bool) := (protosR qr (countR (textR l bad).2.1 (textR l bad).2.2).1.toNat (countR (textR l bad).2.1 (textR l bad).2.2).2.1 (countR (textR l bad).2.1 (textR l bad).2.2).2.2).map fun r => ((⟨(textR l bad).1.toArray⟩, r.1), r.2)
/-- Procedures, in a row. -/
def PEs (ok : Nat → Prop) (w : World) (a : Option Addr) (c : Nat) (ps : List PE) : Prop := ps.length ≤ c ∧ (ps = [] ∨ ∃ g, a = some ⟨g, 0, none⟩ ∧ ok g ∧ ∀ j u, (flatP ps)[j]? = some u → w.cell? ⟨g, j, none⟩ = some u) ∧ ∀ p ∈ ps, p.Ok ok w
def ToldRU (M b : Nat) (r : (ByteArray × List Pro) × List UInt8 × Bool) (w : World) (e : Ending) (w' : World) : Prop :=
  ∃ (ps : List PE) (a : Option Addr) (c : Nat), e = .returned (.agg #[.string r.1.1, .slice a ps.length c]) ∧ ps.map PE.pro = r.1.2 ∧ RD M b r.2.1 r.2.2 w' ∧ Keep b w w' ∧ PEs (fun k => w.heap.size ≤ k ∧ k < w'.heap.size) w' a c ps
theorem codeR_len (qr : QR) (hqr : ∀ l bad d l' bad', qr l bad = some (d, l', bad') → l'.length ≤ l.length) : ∀ (n : Nat) (l : List UInt8) (bad : Bool) (x : List In × List UInt8 × Bool), codeR qr n l bad = some x → x.2.1.length ≤ l.length
  | 0, l, bad, x, h => by rw [codeR] at h; obtain rfl := Option.some.inj h; exact Nat.le_refl _
  | n + 1, l, bad, x, h => by
    rw [codeR] at h
    cases e : insR qr l bad with
    | none => rw [e] at h; simp at h
    | some y =>
      rw [e] at h
      have h1 := insR_len qr hqr e
      simp only at h
      split at h
      · obtain rfl := Option.some.inj h; exact h1
      · cases e2 : codeR qr n y.2.1 y.2.2 with
        | none => rw [e2] at h; simp at h
        | some z =>
          rw [e2] at h
          have h2 := codeR_len qr hqr n _ _ _ e2
          simp at h
          subst h
          simp only
          omega
theorem protoR_len (qr : QR) (hqr : ∀ l bad d l' bad', qr l bad = some (d, l', bad') → l'.length ≤ l.length) {l : List UInt8} {bad : Bool} {x : Pro × List UInt8 × Bool} (h : protoR qr l bad = some x) : x.2.1.length ≤ l.length := by
  unfold protoR at h
  have h1 := numR_len l bad
  have h2 := countR_len (numR l bad).2.1 (numR l bad).2.2
  cases e : codeR qr (countR (numR l bad).2.1 (numR l bad).2.2).1.toNat (countR (numR l bad).2.1 (numR l bad).2.2).2.1 (countR (numR l bad).2.1 (numR l bad).2.2).2.2 with
  | none => rw [e] at h; simp at h
  | some z =>
    rw [e] at h
    have h3 := codeR_len qr hqr _ _ _ _ e
    simp at h
    subst h
    simp only
    omega
theorem GR.doneP {M b P N1 z0 z1 nm tv} {es : List PE} {l bad w W} (h : GR gP M b P N1 #[z0, z1] (.string nm) tv es l bad w W) : ∃ a c, tv = .slice a es.length c ∧ PEs (fun k => w.heap.size ≤ k ∧ k < ((W.setCell ⟨N1, 0, none⟩ (.string nm)).setCell ⟨N1, 1, none⟩ tv).heap.size) ((W.setCell ⟨N1, 0, none⟩ (.string nm)).setCell ⟨N1, 1, none⟩ tv) a c es := by
  obtain ⟨_, _, _, h4, h5⟩ := h.fill
  generalize ((W.setCell ⟨N1, 0, none⟩ (.string nm)).setCell ⟨N1, 1, none⟩ tv) = V at h4 h5 ⊢
  obtain ⟨a, c, htv, hc⟩ := h.slice
  refine ⟨a, c, htv, hc, ?_, h5⟩
  rcases h4.2 with ⟨h0, h1⟩ | ⟨g, cap, cur, h0, hbg, hg, hrest⟩
  · exact Or.inl (List.eq_nil_of_length_eq_zero h1)
  · rw [htv] at h0
    simp at h0
    obtain ⟨rfl, rfl⟩ := h0
    refine Or.inr ⟨g, rfl, ⟨hbg, (Array.getElem?_eq_some_iff.1 hg).1⟩, fun j u hu => ?_⟩
    have hj : j < es.length * 2 := by
      have := (List.getElem?_eq_some_iff.1 hu).1
      simpa [flatP_len] using this
    subst htv
    exact (h4.cellAt j hj).trans hu

set_option maxRecDepth 100000 in
set_option maxHeartbeats 6400000 in
theorem runit_any (qr : QR) (hq : Qok qr) (hqr : ∀ l bad d l' bad', qr l bad = some (d, l', bad') → l'.length ≤ l.length) (M b : Nat) (l : List UInt8) (bad : Bool) (w : World) (h : RD M b l bad w) (hl : l.length ≤ 60000) (r : (ByteArray × List Pro) × List UInt8 × Bool) (hr : unitR qr l bad = some r) : Calls Tryz.prog 31 #[.pointer (some ⟨b, 0, none⟩)] w (ToldRU M b r w) := by
  unfold unitR at hr
  have bz : Below w.heap.size w (w.alloc (.cells #[.string ⟨#[]⟩, .slice none 0 0] 24)) := (Below.refl _ _).alloc (Nat.le_refl _) _
  have HZ := hidd (World.alloc_heap_new w (.cells #[.string ⟨#[]⟩, .slice none 0 0] 24))
  have R0 := hidd (h.below (bz.mono h.2.1))
  have N := hidd (rtext_any M b l bad _ R0.out)
  have HBM : Hid (b < M ∧ M ≤ w.heap.size) := ⟨h.1, h.2.1⟩
  have HBZ := hidd bz
  have hln := textR_left l bad
  have INS : Hid (∀ x l1 b1, l1.length ≤ 60000 → protoR qr l1 b1 = some x → ∀ W, RD M b l1 b1 W → Calls Tryz.prog 62 #[.pointer (some ⟨b, 0, none⟩)] W (ToldRP M b x W)) := fun x l1 b1 hl1 hx W hW => rproto_any qr hq hqr M b l1 b1 W hW hl1 x hx
  have INL : Hid (∀ (l : List UInt8) (bad : Bool) (x : Pro × List UInt8 × Bool), protoR qr l bad = some x → x.2.1.length ≤ l.length) := fun l bad x hx => protoR_len qr hqr hx
  generalize textR l bad = y at hr N hln
  obtain ⟨nl, l1, b1⟩ := y
  simp only at hr hln
  have hlc := countR_len l1 b1
  have CO : Hid (∀ W, RD M b l1 b1 W → Calls Tryz.prog 61 #[.pointer (some ⟨b, 0, none⟩)] W (ToldN M b (countR l1 b1) W)) := fun W hW => rcount_any M b l1 b1 W hW
  have HCN := hidd (countR_nat l1 b1)
  generalize countR l1 b1 = y2 at hr CO HCN hlc
  obtain ⟨nn, l2, b2⟩ := y2
  simp only at hr HCN hlc
  obtain ⟨n, rfl, hn⟩ := HCN.out
  rw [Int.toNat_natCast] at hr
  obtain ⟨nm, hnm⟩ : ∃ x : ByteArray, x = ⟨nl.toArray⟩ := ⟨_, rfl⟩
  obtain ⟨⟨xs, l3, b3⟩, hc, rfl⟩ : ∃ c, protosR qr n l2 b2 = some c ∧ (⟨(nm, c.1), c.2⟩ : (ByteArray × List Pro) × List UInt8 × Bool) = r := by
    cases e : protosR qr n l2 b2 with
    | none => rw [e] at hr; simp at hr
    | some c => rw [e] at hr; exact ⟨c, rfl, by rw [hnm]; simpa using hr⟩
  have HC := hidd hc
  have HLL : Hid (l2.length ≤ 60000 ∧ n ≤ 60000) := ⟨by omega, by omega⟩
  have hn6 : n ≤ 60000 := by omega
  have HNM := hidd hnm
  clear hr h bz hq hqr hln hlc hn HCN hc hl hnm
  go_enter Tryz.func31, Tryz.ntmps31
  go_upto_region 1 with fail
  generalize w.alloc (.cells #[.string ⟨#[]⟩, .slice none 0 0] 24) = V0 at HZ R0 N HBZ ⊢
  go_wp2_with fail
  refine N.out.mono ?_
  rintro e w1 ⟨rfl, h1, k1⟩
  simp only at h1 ⊢
  rw [← HNM.out]
  have GR2 : Hid (GR gP M b w1.heap.size w.heap.size #[.string ⟨#[]⟩, .slice none 0 0] (.string nm) (.slice none 0 0) [] l1 b1 w (w1.alloc (.cells #[.string nm, .slice none 0 0] 24))) := by
    have hlt := (Array.getElem?_eq_some_iff.1 HZ.out).1
    have hsz := k1.size
    have hbm := HBM.out
    have n1 := (k1.block _ hlt (by simp; omega)).trans HZ.out
    have k2 := (Keep.below (Keep.refl b w) HBZ.out).trans k1
    exact ⟨h1.below ((Below.refl _ _).alloc (by omega) _), k2.alloc _, by omega, (Below.heap_alloc _ _ _ (by omega)).trans n1, World.alloc_heap_new w1 _, Nat.le_refl _, by omega, by omega, World.ownsRow_nil _ _ _ _, by simp [Value.ownBlock], by simp [Value.ownBlock], by simp⟩
  clear h1 k1 N R0 HZ HBZ HNM
  go_upto_region 2 with fail
  generalize w1.alloc (.cells #[.string nm, .slice none 0 0] 24) = V2 at GR2 ⊢
  generalize w1.heap.size = P at GR2 ⊢
  obtain ⟨N1, hN1⟩ : ∃ n, n = w.heap.size := ⟨_, rfl⟩
  rw [← hN1] at GR2 ⊢
  have HN1 := hidd hN1
  rw [hN1] at GR2
  have GR2' : Hid (GR gP M b P N1 #[.string ⟨#[]⟩, .slice none 0 0] (.string nm) (.slice none 0 0) [] l1 b1 w V2) := by
    unfold Hid
    rw [hN1]
    exact GR2.out
  clear hN1 GR2
  go_wp2_with fail
  refine (CO.out _ GR2'.out.rd).mono ?_
  rintro e w3 ⟨rfl, h1, k1⟩
  have GR3 := hidd (GR2'.out.call h1 k1)
  simp only at GR3 ⊢
  clear h1 k1 CO GR2'
  go_wp2_with fail
  go_loopw [9] (fun i wr => ∃ (j : Nat) (tv : Value) (es : List PE) (l : List UInt8) (bad : Bool), j ≤ n ∧ i = .int .i64 j ∧ Hid (GR gP M b P N1 #[.string ⟨#[]⟩, .slice none 0 0] (.string nm) tv es l bad w wr ∧ es.length = j ∧ l.length ≤ 60000 ∧ (protosR qr (n - j) l bad).map (fun r => (es.map PE.pro ++ r.1, r.2)) = some (xs, l3, b3))) (fun i _ => n - (intOf i).toNat)
  case atStart => exact ⟨0, _, [], l2, b2, Nat.zero_le _, rfl, GR3.out, rfl, HLL.out.1, by simp [HC.out]⟩
  case round =>
  obtain ⟨j, tv, es, l, bad, hj, rfl, HR⟩ := hrel
  by_cases hlt : j < n
  case neg =>
    obtain rfl : j = n := by omega
    have hfin := HR.out.2.2.2
    rw [Nat.sub_self, protosR] at hfin
    simp at hfin
    obtain ⟨rfl, rfl, rfl⟩ := hfin
    obtain ⟨a, c, htv, hpe⟩ := HR.out.1.doneP
    have HF := hidd HR.out.1.fill
    have HPE := hidd hpe
    have c0 : wr.cell? ⟨P, 0, none⟩ = some (.string nm) := (cellO HR.out.1.p).trans rfl
    have c1 : wr.cell? ⟨P, 1, none⟩ = some tv := (cellO HR.out.1.p).trans rfl
    have d0 : wr.cell? ⟨N1, 0, none⟩ = some (.string ⟨#[]⟩) := (cellO HR.out.1.n1).trans rfl
    have d1 : wr.cell? ⟨N1, 1, none⟩ = some (.slice none 0 0) := (cellO HR.out.1.n1).trans rfl
    have z0 := looseO (q := 0) HR.out.1.n1
    have z1 := looseO (q := 1) HR.out.1.n1
    clear HR GR3 hpe
    subst htv
    go_wp2_with fail
    exact bodyPost_ret (ret31 HF.out.1 rfl) rfl ⟨es, a, c, rfl, rfl, HF.out.2.1, HF.out.2.2.1, HPE.out⟩
  obtain ⟨k, hk⟩ : ∃ k, n - j = k + 1 := ⟨n - j - 1, by omega⟩
  have hfin := HR.out.2.2.2
  rw [hk, protosR] at hfin
  cases hin : protoR qr l bad with
  | none => rw [hin] at hfin; simp at hfin
  | some y =>
  rw [hin] at hfin
  obtain ⟨x, l', bad'⟩ := y
  have IN := hidd (INS.out _ _ _ HR.out.2.2.1 hin)
  have HLN := hidd (INL.out _ _ _ hin)
  simp only at hfin HLN
  have HFI := hidd hfin
  have HKJ : Hid (n - (j + 1) = k) := by unfold Hid; omega
  have C_0 := hidd HR.out.1.drew
  have HLEN : Hid (es.length + 1 ≤ 60000) := by have := HR.out.2.1; unfold Hid; omega
  have HRE := hidd HR.out.2
  clear hin hfin hk HR
  go_upto_region 4 with fail
  go_cut [] from 11 to 17 (fun wx => ∃ (tv' : Value) (e : PE), Hid (GR gP M b P N1 #[.string ⟨#[]⟩, .slice none 0 0] (.string nm) tv' (es ++ [e]) l' bad' w wx) ∧ Hid (e.pro = x))
  case first =>
    refine wp_region_held_drew (S := fun u => True) (by kernel_rfl) trivial (fun hS => ?_)
    refine wpAnyH_take (i := 0) (oi := { dst := some 11, op := Op.fieldAddr 24 (Operand.tmp 3) 1, type := 0, pos := _, after := _, guard := none }) (v := .pointer (some ⟨P, 1, none⟩)) rfl (by kernel_rfl) (by kernel_rfl) (by kernel_rfl) (fun _ _ _ h => h) (Or.inl ⟨by rfl, fun u hu => by go_simp⟩) hS ?_
    simp only [Act.put, List.setIfInBounds_toArray, List.set_cons_zero, List.set_cons_succ]
    refine wpAnyH_take (i := 2) (oi := { dst := some 13, op := Op.move (Operand.tmp 0), type := 114, pos := _, after := _, guard := none }) (v := .pointer (some ⟨b, 0, none⟩)) rfl (by kernel_rfl) (by kernel_rfl) (by kernel_rfl) (fun _ _ _ h => h) (Or.inl ⟨by rfl, fun u hu => by go_simp⟩) hS ?_
    simp only [Act.put, List.setIfInBounds_toArray, List.set_cons_zero, List.set_cons_succ]
    refine wpAnyH_ready (rs := [1, 3]) (by kernel_rfl) (by simp) (AllReadyH.cons (o := { dst := some 12, op := Op.load 22 (Operand.tmp 11), type := 22, pos := _, after := _, guard := none }) rfl (fun K hK => ?_) (AllReadyH.cons (o := { dst := some 14, op := Op.call { callee := Callee.value (Operand.func 62), args := #[Operand.tmp 13], argTypes := #[114] }, type := 47, pos := _, after := _, guard := none }) rfl (fun K hK => ?_) AllReadyH.nil))
    · have zt : (wr.drew).cell? ⟨P, 1, none⟩ = some tv := (cellO C_0.out.p).trans rfl
      go_simp
      clear zt
      refine hK.out _ _ trivial (fun hS => ?_)
      clear hK K
      refine wpAnyH_ready (rs := [3]) (by kernel_rfl) (by simp) (AllReadyH.cons (o := { dst := some 14, op := Op.call { callee := Callee.value (Operand.func 62), args := #[Operand.tmp 13], argTypes := #[114] }, type := 47, pos := _, after := _, guard := none }) rfl (fun K hK => ?_) AllReadyH.nil)
      go_simp
      refine (IN.out (wr.drew) C_0.out.rd).mono ?_
      rintro e W1 ⟨pe, rfl, hpe, hr1, hk1, hok1⟩
      have HPE := hidd hpe
      have ONE : Hid (∀ u ∈ pe.cells, u.oneCell' = true) := by
        intro u hu
        simp [PE.cells] at hu
        rcases hu with rfl | rfl <;> rfl
      have C_1 := hidd (C_0.out.call hr1 hk1)
      have X_1 : Hid (PE.Ok (fun k => w.heap.size ≤ k ∧ k < W1.heap.size ∧ k ≠ P ∧ k ≠ N1 ∧ some k ≠ tv.ownBlock) W1 pe) := hok1.stay (fun _ _ => rfl) (fun k hk => ⟨Nat.le_trans C_0.out.kb.size hk.1, hk.2, by have := (Array.getElem?_eq_some_iff.1 C_0.out.p).1; omega, by have := (Array.getElem?_eq_some_iff.1 C_0.out.n1).1; omega, fun e => by have := (C_0.out.row.lt k e.symm).2; omega⟩)
      clear hr1 hk1 hok1 hpe C_0
      show K _ W1
      refine hK.out _ _ trivial (fun hS => ?_)
      clear hK K
      refine wpAnyH_ready (rs := [4]) (by kernel_rfl) (by simp) (AllReadyH.cons (o := { dst := some 15, op := Op.buildSlice 22 1 #[(0, Operand.tmp 14)], type := 22, pos := _, after := _, guard := none }) rfl (fun K hK => ?_) AllReadyH.nil)
      go_simp
      have hb2 : Below W1.heap.size W1 (W1.alloc (.cells #[.int .i64 pe.args, .slice pe.a pe.es.length pe.c] 47)) := (Below.refl _ _).alloc (Nat.le_refl _) _
      have AC_2 := hidd (World.alloc_heap_new W1 (.cells #[.int .i64 pe.args, .slice pe.a pe.es.length pe.c] 47))
      have C_2 := hidd (C_1.out.below hb2)
      have X_2 := hidd (X_1.out.stay (fun k hk => hb2.block k hk.2.1) (fun k hk => (⟨hk.1, Nat.lt_of_lt_of_le hk.2.1 hb2.size, hk.2.2⟩ : w.heap.size ≤ k ∧ k < (W1.alloc (.cells #[.int .i64 pe.args, .slice pe.a pe.es.length pe.c] 47)).heap.size ∧ k ≠ P ∧ k ≠ N1 ∧ some k ≠ tv.ownBlock)))
      change K _ (W1.alloc (.cells #[.int .i64 pe.args, .slice pe.a pe.es.length pe.c] 47))
      generalize W1.alloc (.cells #[.int .i64 pe.args, .slice pe.a pe.es.length pe.c] 47) = W2 at AC_2 C_2 X_2 ⊢
      generalize W1.heap.size = nb at AC_2 ⊢
      clear hb2 C_1 X_1
      refine hK.out _ _ trivial (fun hS => ?_)
      clear hK K
      refine wpAnyH_ready (rs := [5]) (by kernel_rfl) (by simp) (AllReadyH.cons (o := { dst := some 16, op := Op.call { callee := Callee.builtin Builtin.append, args := #[Operand.tmp 12, Operand.tmp 15], argTypes := #[22, 22] }, type := 22, pos := _, after := _, guard := none }) rfl (fun K hK => ?_) AllReadyH.nil)
      obtain ⟨i0, hinf, hz0, hz1, hz2⟩ := info_parts infoPro
      refine step_append_where rfl (.tmp 12) (.tmp 15) 22 rfl w.heap.size 47 i0 _ 2 32 Tryz.underlying22 hinf hz0 hz1 hz2 rfl (by decide) tv es.length (es.flatMap gP.cells) rfl (by exact C_2.out.row) ⟨nb, 0, none⟩ 1 1 (pe).cells rfl rfl ?_ ONE.out (by decide) ?_ ?_ ?_ ?_
      · intro q u hq
        have hcell := cellO (q := q) AC_2.out
        have hadd := addr_add nb q
        rw [hadd, hcell]
        simpa [IE.cells, ic, PE.cells] using hq
      · have := HLEN.out; unfold maxLen; omega
      · have := HLEN.out; omega
      · exact Nat.le_trans C_2.out.kb.size (Nat.le_refl _)
      intro tv' w4 hown4 hg4 hw4
      have PU := hidd (C_2.out.push (e := pe) X_2.out hown4 hg4 hw4)
      have P4 : w4.heap[P]? = some (.cells #[.string nm, tv] 24 (0, 0)) := (hg4.block P (Array.getElem?_eq_some_iff.1 C_2.out.p).1 (fun e => C_2.out.s1 e.symm)).trans C_2.out.p
      have P4H := hidd P4
      clear hown4 hg4 hw4 P4 hinf hz0 hz1 hz2
      clear C_2 X_2 AC_2
      show K _ w4
      refine hK.out _ _ trivial (fun hS => ?_)
      clear hK K
      refine wpAnyH_take (i := 6) (oi := { dst := some 17, op := Op.fieldAddr 24 (Operand.tmp 3) 1, type := 0, pos := _, after := _, guard := none }) (v := .pointer (some ⟨P, 1, none⟩)) rfl (by kernel_rfl) (by kernel_rfl) (by kernel_rfl) (fun _ _ _ h => h) (Or.inl ⟨by rfl, fun u hu => by go_simp⟩) hS ?_
      simp only [Act.put, List.setIfInBounds_toArray, List.set_cons_zero, List.set_cons_succ]
      refine wpAnyH_ready (rs := [7]) (by kernel_rfl) (by simp) (AllReadyH.cons (o := { dst := none, op := Op.store 22 (Operand.tmp 17) (Operand.tmp 16), type := 0, pos := _, after := _, guard := none }) rfl (fun K hK => ?_) AllReadyH.nil)
      have n0 : w4.cell? ⟨P, 1, none⟩ = some tv := (cellO P4H.out).trans rfl
      have nz := looseO (q := 1) P4H.out
      obtain ⟨ta, tc, htv, htc⟩ := PU.out.slice
      subst htv
      go_simp
      clear n0 nz P4H
      refine hK.out _ _ trivial (fun hS => ?_)
      clear hK K
      refine wpAnyH_done (by kernel_rfl) ?_ _
      go_wp2_with fail
      go_meet
      case rel =>
        exact ⟨_, _, PU.out, HPE.out⟩
    · go_simp
      refine (IN.out (wr.drew) C_0.out.rd).mono ?_
      rintro e W1 ⟨pe, rfl, hpe, hr1, hk1, hok1⟩
      have HPE := hidd hpe
      have ONE : Hid (∀ u ∈ pe.cells, u.oneCell' = true) := by
        intro u hu
        simp [PE.cells] at hu
        rcases hu with rfl | rfl <;> rfl
      have C_1 := hidd (C_0.out.call hr1 hk1)
      have X_1 : Hid (PE.Ok (fun k => w.heap.size ≤ k ∧ k < W1.heap.size ∧ k ≠ P ∧ k ≠ N1 ∧ some k ≠ tv.ownBlock) W1 pe) := hok1.stay (fun _ _ => rfl) (fun k hk => ⟨Nat.le_trans C_0.out.kb.size hk.1, hk.2, by have := (Array.getElem?_eq_some_iff.1 C_0.out.p).1; omega, by have := (Array.getElem?_eq_some_iff.1 C_0.out.n1).1; omega, fun e => by have := (C_0.out.row.lt k e.symm).2; omega⟩)
      clear hr1 hk1 hok1 hpe C_0
      show K _ W1
      refine hK.out _ _ trivial (fun hS => ?_)
      clear hK K
      refine wpAnyH_ready (rs := [1, 4]) (by kernel_rfl) (by simp) (AllReadyH.cons (o := { dst := some 12, op := Op.load 22 (Operand.tmp 11), type := 22, pos := _, after := _, guard := none }) rfl (fun K hK => ?_) (AllReadyH.cons (o := { dst := some 15, op := Op.buildSlice 22 1 #[(0, Operand.tmp 14)], type := 22, pos := _, after := _, guard := none }) rfl (fun K hK => ?_) AllReadyH.nil))
      · have zt : (W1).cell? ⟨P, 1, none⟩ = some tv := (cellO C_1.out.p).trans rfl
        go_simp
        clear zt
        refine hK.out _ _ trivial (fun hS => ?_)
        clear hK K
        refine wpAnyH_ready (rs := [4]) (by kernel_rfl) (by simp) (AllReadyH.cons (o := { dst := some 15, op := Op.buildSlice 22 1 #[(0, Operand.tmp 14)], type := 22, pos := _, after := _, guard := none }) rfl (fun K hK => ?_) AllReadyH.nil)
        go_simp
        have hb2 : Below W1.heap.size W1 (W1.alloc (.cells #[.int .i64 pe.args, .slice pe.a pe.es.length pe.c] 47)) := (Below.refl _ _).alloc (Nat.le_refl _) _
        have AC_2 := hidd (World.alloc_heap_new W1 (.cells #[.int .i64 pe.args, .slice pe.a pe.es.length pe.c] 47))
        have C_2 := hidd (C_1.out.below hb2)
        have X_2 := hidd (X_1.out.stay (fun k hk => hb2.block k hk.2.1) (fun k hk => (⟨hk.1, Nat.lt_of_lt_of_le hk.2.1 hb2.size, hk.2.2⟩ : w.heap.size ≤ k ∧ k < (W1.alloc (.cells #[.int .i64 pe.args, .slice pe.a pe.es.length pe.c] 47)).heap.size ∧ k ≠ P ∧ k ≠ N1 ∧ some k ≠ tv.ownBlock)))
        change K _ (W1.alloc (.cells #[.int .i64 pe.args, .slice pe.a pe.es.length pe.c] 47))
        generalize W1.alloc (.cells #[.int .i64 pe.args, .slice pe.a pe.es.length pe.c] 47) = W2 at AC_2 C_2 X_2 ⊢
        generalize W1.heap.size = nb at AC_2 ⊢
        clear hb2 C_1 X_1
        refine hK.out _ _ trivial (fun hS => ?_)
        clear hK K
        refine wpAnyH_ready (rs := [5]) (by kernel_rfl) (by simp) (AllReadyH.cons (o := { dst := some 16, op := Op.call { callee := Callee.builtin Builtin.append, args := #[Operand.tmp 12, Operand.tmp 15], argTypes := #[22, 22] }, type := 22, pos := _, after := _, guard := none }) rfl (fun K hK => ?_) AllReadyH.nil)
        obtain ⟨i0, hinf, hz0, hz1, hz2⟩ := info_parts infoPro
        refine step_append_where rfl (.tmp 12) (.tmp 15) 22 rfl w.heap.size 47 i0 _ 2 32 Tryz.underlying22 hinf hz0 hz1 hz2 rfl (by decide) tv es.length (es.flatMap gP.cells) rfl (by exact C_2.out.row) ⟨nb, 0, none⟩ 1 1 (pe).cells rfl rfl ?_ ONE.out (by decide) ?_ ?_ ?_ ?_
        · intro q u hq
          have hcell := cellO (q := q) AC_2.out
          have hadd := addr_add nb q
          rw [hadd, hcell]
          simpa [IE.cells, ic, PE.cells] using hq
        · have := HLEN.out; unfold maxLen; omega
        · have := HLEN.out; omega
        · exact Nat.le_trans C_2.out.kb.size (Nat.le_refl _)
        intro tv' w4 hown4 hg4 hw4
        have PU := hidd (C_2.out.push (e := pe) X_2.out hown4 hg4 hw4)
        have P4 : w4.heap[P]? = some (.cells #[.string nm, tv] 24 (0, 0)) := (hg4.block P (Array.getElem?_eq_some_iff.1 C_2.out.p).1 (fun e => C_2.out.s1 e.symm)).trans C_2.out.p
        have P4H := hidd P4
        clear hown4 hg4 hw4 P4 hinf hz0 hz1 hz2
        clear C_2 X_2 AC_2
        show K _ w4
        refine hK.out _ _ trivial (fun hS => ?_)
        clear hK K
        refine wpAnyH_take (i := 6) (oi := { dst := some 17, op := Op.fieldAddr 24 (Operand.tmp 3) 1, type := 0, pos := _, after := _, guard := none }) (v := .pointer (some ⟨P, 1, none⟩)) rfl (by kernel_rfl) (by kernel_rfl) (by kernel_rfl) (fun _ _ _ h => h) (Or.inl ⟨by rfl, fun u hu => by go_simp⟩) hS ?_
        simp only [Act.put, List.setIfInBounds_toArray, List.set_cons_zero, List.set_cons_succ]
        refine wpAnyH_ready (rs := [7]) (by kernel_rfl) (by simp) (AllReadyH.cons (o := { dst := none, op := Op.store 22 (Operand.tmp 17) (Operand.tmp 16), type := 0, pos := _, after := _, guard := none }) rfl (fun K hK => ?_) AllReadyH.nil)
        have n0 : w4.cell? ⟨P, 1, none⟩ = some tv := (cellO P4H.out).trans rfl
        have nz := looseO (q := 1) P4H.out
        obtain ⟨ta, tc, htv, htc⟩ := PU.out.slice
        subst htv
        go_simp
        clear n0 nz P4H
        refine hK.out _ _ trivial (fun hS => ?_)
        clear hK K
        refine wpAnyH_done (by kernel_rfl) ?_ _
        go_wp2_with fail
        go_meet
        case rel =>
          exact ⟨_, _, PU.out, HPE.out⟩
      · go_simp
        have hb2 : Below W1.heap.size W1 (W1.alloc (.cells #[.int .i64 pe.args, .slice pe.a pe.es.length pe.c] 47)) := (Below.refl _ _).alloc (Nat.le_refl _) _
        have AC_2 := hidd (World.alloc_heap_new W1 (.cells #[.int .i64 pe.args, .slice pe.a pe.es.length pe.c] 47))
        have C_2 := hidd (C_1.out.below hb2)
        have X_2 := hidd (X_1.out.stay (fun k hk => hb2.block k hk.2.1) (fun k hk => (⟨hk.1, Nat.lt_of_lt_of_le hk.2.1 hb2.size, hk.2.2⟩ : w.heap.size ≤ k ∧ k < (W1.alloc (.cells #[.int .i64 pe.args, .slice pe.a pe.es.length pe.c] 47)).heap.size ∧ k ≠ P ∧ k ≠ N1 ∧ some k ≠ tv.ownBlock)))
        change K _ (W1.alloc (.cells #[.int .i64 pe.args, .slice pe.a pe.es.length pe.c] 47))
        generalize W1.alloc (.cells #[.int .i64 pe.args, .slice pe.a pe.es.length pe.c] 47) = W2 at AC_2 C_2 X_2 ⊢
        generalize W1.heap.size = nb at AC_2 ⊢
        clear hb2 C_1 X_1
        refine hK.out _ _ trivial (fun hS => ?_)
        clear hK K
        refine wpAnyH_ready (rs := [1]) (by kernel_rfl) (by simp) (AllReadyH.cons (o := { dst := some 12, op := Op.load 22 (Operand.tmp 11), type := 22, pos := _, after := _, guard := none }) rfl (fun K hK => ?_) AllReadyH.nil)
        have zt : (W2).cell? ⟨P, 1, none⟩ = some tv := (cellO C_2.out.p).trans rfl
        go_simp
        clear zt
        refine hK.out _ _ trivial (fun hS => ?_)
        clear hK K
        refine wpAnyH_ready (rs := [5]) (by kernel_rfl) (by simp) (AllReadyH.cons (o := { dst := some 16, op := Op.call { callee := Callee.builtin Builtin.append, args := #[Operand.tmp 12, Operand.tmp 15], argTypes := #[22, 22] }, type := 22, pos := _, after := _, guard := none }) rfl (fun K hK => ?_) AllReadyH.nil)
        obtain ⟨i0, hinf, hz0, hz1, hz2⟩ := info_parts infoPro
        refine step_append_where rfl (.tmp 12) (.tmp 15) 22 rfl w.heap.size 47 i0 _ 2 32 Tryz.underlying22 hinf hz0 hz1 hz2 rfl (by decide) tv es.length (es.flatMap gP.cells) rfl (by exact C_2.out.row) ⟨nb, 0, none⟩ 1 1 (pe).cells rfl rfl ?_ ONE.out (by decide) ?_ ?_ ?_ ?_
        · intro q u hq
          have hcell := cellO (q := q) AC_2.out
          have hadd := addr_add nb q
          rw [hadd, hcell]
          simpa [IE.cells, ic, PE.cells] using hq
        · have := HLEN.out; unfold maxLen; omega
        · have := HLEN.out; omega
        · exact Nat.le_trans C_2.out.kb.size (Nat.le_refl _)
        intro tv' w4 hown4 hg4 hw4
        have PU := hidd (C_2.out.push (e := pe) X_2.out hown4 hg4 hw4)
        have P4 : w4.heap[P]? = some (.cells #[.string nm, tv] 24 (0, 0)) := (hg4.block P (Array.getElem?_eq_some_iff.1 C_2.out.p).1 (fun e => C_2.out.s1 e.symm)).trans C_2.out.p
        have P4H := hidd P4
        clear hown4 hg4 hw4 P4 hinf hz0 hz1 hz2
        clear C_2 X_2 AC_2
        show K _ w4
        refine hK.out _ _ trivial (fun hS => ?_)
        clear hK K
        refine wpAnyH_take (i := 6) (oi := { dst := some 17, op := Op.fieldAddr 24 (Operand.tmp 3) 1, type := 0, pos := _, after := _, guard := none }) (v := .pointer (some ⟨P, 1, none⟩)) rfl (by kernel_rfl) (by kernel_rfl) (by kernel_rfl) (fun _ _ _ h => h) (Or.inl ⟨by rfl, fun u hu => by go_simp⟩) hS ?_
        simp only [Act.put, List.setIfInBounds_toArray, List.set_cons_zero, List.set_cons_succ]
        refine wpAnyH_ready (rs := [7]) (by kernel_rfl) (by simp) (AllReadyH.cons (o := { dst := none, op := Op.store 22 (Operand.tmp 17) (Operand.tmp 16), type := 0, pos := _, after := _, guard := none }) rfl (fun K hK => ?_) AllReadyH.nil)
        have n0 : w4.cell? ⟨P, 1, none⟩ = some tv := (cellO P4H.out).trans rfl
        have nz := looseO (q := 1) P4H.out
        obtain ⟨ta, tc, htv, htc⟩ := PU.out.slice
        subst htv
        go_simp
        clear n0 nz P4H
        refine hK.out _ _ trivial (fun hS => ?_)
        clear hK K
        refine wpAnyH_done (by kernel_rfl) ?_ _
        go_wp2_with fail
        go_meet
        case rel =>
          exact ⟨_, _, PU.out, HPE.out⟩
  case rest =>
    obtain ⟨tv', e, GN, HE⟩ := hcut
    have c1 : wc.cell? ⟨b, 1, none⟩ = some (.bool bad') := by
      obtain ⟨_, _, a, cap, g1, _⟩ := GN.out.rd
      exact (cellO g1).trans rfl
    have EM : Hid ((es ++ [e]).map PE.pro = es.map PE.pro ++ [x]) := by unfold Hid; rw [List.map_append, List.map_singleton, HE.out]
    cases bad'
    case false =>
      go_wp2_with fail
      go_roundw
      case rel =>
        refine ⟨j + 1, tv', es ++ [e], l', false, by omega, by go_num, GN.out, by have := HRE.out.1; simp; omega, by have := HLN.out; have := HRE.out.2.1; omega, ?_⟩
        have hf := HFI.out
        rw [if_neg (by simp), Option.map_map] at hf
        rw [HKJ.out, EM.out, ← hf]
        congr 1
        funext r
        simp
      case measure => simp [intOf]; omega
    case true =>
      have hf := HFI.out
      rw [if_pos rfl] at hf
      simp at hf
      obtain ⟨hx1, rfl, rfl⟩ := hf
      obtain ⟨fs, hfs⟩ : ∃ f, f = es ++ [e] := ⟨_, rfl⟩
      rw [← hfs] at GN EM
      clear hfs
      obtain ⟨a, c, htv, hpe⟩ := GN.out.doneP
      have HF := hidd GN.out.fill
      have HPE := hidd hpe
      have HXS : Hid (fs.map PE.pro = xs) := by unfold Hid; rw [EM.out, hx1]
      have e0 : wc.cell? ⟨P, 0, none⟩ = some (.string nm) := (cellO GN.out.p).trans rfl
      have e1 : wc.cell? ⟨P, 1, none⟩ = some tv' := (cellO GN.out.p).trans rfl
      have d0 : wc.cell? ⟨N1, 0, none⟩ = some (.string ⟨#[]⟩) := (cellO GN.out.n1).trans rfl
      have d1 : wc.cell? ⟨N1, 1, none⟩ = some (.slice none 0 0) := (cellO GN.out.n1).trans rfl
      have z0 := looseO (q := 0) GN.out.n1
      have z1 := looseO (q := 1) GN.out.n1
      clear GN HRE HFI hx1 EM GR3 hpe
      subst htv
      go_wp2_with fail
      exact bodyPost_ret (ret31 HF.out.1 rfl) rfl ⟨fs, a, c, rfl, HXS.out, HF.out.2.1, HF.out.2.2.1, HPE.out⟩
end
section
set_option linter.unusedVariables false
set_option linter.unusedSimpArgs false
open Go.RowKit

theorem flat_at {α : Type} {f : α → List Value} {k : Nat} (hk : ∀ x, (f x).length = k) : ∀ {l : List α} {i q : Nat} {x : α}, l[i]? = some x → q < k → (l.flatMap f)[i * k + q]? = (f x)[q]?
  | y :: r, 0, q, x, h, hq => by
    simp only [List.getElem?_cons_zero, Option.some.injEq] at h
    subst h
    rw [List.flatMap_cons, Nat.zero_mul, Nat.zero_add, List.getElem?_append_left (by rw [hk]; exact hq)]
  | y :: r, i + 1, q, x, h, hq => by
    simp only [List.getElem?_cons_succ] at h
    rw [List.flatMap_cons, List.getElem?_append_right (by rw [hk, Nat.succ_mul]; omega), hk, show (i + 1) * k + q - k = i * k + q by rw [Nat.succ_mul]; omega]
    exact flat_at hk h hq
theorem IE.il {ok : Nat → Prop} {B g : Nat} {w : World} {es : List IE} {i : Nat} {e : IE} (ho : ∀ k, ok k → k < B) (hc : ∀ j u, (flatI es)[j]? = some u → w.cell? ⟨g, j, none⟩ = some u) (he : es[i]? = some e) (hk : e.Ok ok w) : IL B w g (0 + i * 11) e.i e.qa e.qc := by
  have c : ∀ q u, e.cells[q]? = some u → q < 11 → w.cell? ⟨g, 0 + i * 11 + q, none⟩ = some u := fun q u hu hq => by
    rw [Nat.zero_add]
    exact hc _ _ ((flat_at (f := IE.cells) (fun _ => rfl) he hq).trans hu)
  obtain ⟨h1, h2, h3, h4, f, h5⟩ := hk
  exact ⟨c 0 _ rfl (by omega), c 1 _ rfl (by omega), c 2 _ rfl (by omega), c 3 _ rfl (by omega), c 4 _ rfl (by omega), c 5 _ rfl (by omega), c 6 _ rfl (by omega), c 7 _ rfl (by omega), c 8 _ rfl (by omega), c 9 _ rfl (by omega), c 10 _ rfl (by omega), h1, h2, h3, h4, f, Dc.stay (fun _ _ => rfl) ho f _ _ h5⟩
theorem PE.cl {ok : Nat → Prop} {B : Nat} {w : World} {p : PE} (ho : ∀ k, ok k → k < B) (h : p.Ok ok w) : CL B w p.a p.pro.code := by
  obtain ⟨_, h2, h3⟩ := h
  rcases h2 with h2 | ⟨g, ha, hg, hc⟩
  · left; unfold PE.pro; rw [h2]; rfl
  · refine Or.inr ⟨g, 0, ha, ho g hg, fun i x hx => ?_⟩
    unfold PE.pro at hx
    rw [List.getElem?_map] at hx
    cases he : p.es[i]? with
    | none => rw [he] at hx; simp at hx
    | some e =>
      rw [he] at hx
      simp at hx
      subst hx
      exact ⟨e.qa, e.qc, IE.il ho hc he (h3 e (List.mem_of_getElem? he))⟩
/-- Procedures in a row lie in memory. -/
theorem PEs.pl {ok : Nat → Prop} {B c : Nat} {w : World} {a : Option Addr} {ps : List PE} (ho : ∀ k, ok k → k < B) (h : PEs ok w a c ps) : PL B w a (ps.map PE.pro) := by
  obtain ⟨_, h2, h3⟩ := h
  rcases h2 with h2 | ⟨g, ha, hg, hc⟩
  · left; rw [h2]; rfl
  · refine Or.inr ⟨g, 0, ha, ho g hg, fun i P hP => ?_⟩
    rw [List.getElem?_map] at hP
    cases hp : ps[i]? with
    | none => rw [hp] at hP; simp at hP
    | some p =>
      rw [hp] at hP
      simp at hP
      subst hP
      have cc : ∀ q u, p.cells[q]? = some u → q < 2 → w.cell? ⟨g, 0 + i * 2 + q, none⟩ = some u := fun q u hu hq => by
        rw [Nat.zero_add]
        exact hc _ _ ((flat_at (f := PE.cells) (fun _ => rfl) hp hq).trans hu)
      have hpk := h3 p (List.mem_of_getElem? hp)
      have hlen : p.pro.code.length = p.es.length := by unfold PE.pro; simp
      refine ⟨p.a, p.c, cc 0 _ rfl (by omega), ?_, by rw [hlen]; exact hpk.1, PE.cl ho hpk⟩
      rw [hlen]
      exact cc 1 _ rfl (by omega)
theorem PEs.stay {ok ok' : Nat → Prop} {c : Nat} {w w' : World} {a : Option Addr} {ps : List PE} (h : PEs ok w a c ps) (hw : ∀ k, ok k → w'.heap[k]? = w.heap[k]?) (ho : ∀ k, ok k → ok' k) : PEs ok' w' a c ps := by
  obtain ⟨h1, h2, h3⟩ := h
  refine ⟨h1, ?_, fun p hp => (h3 p hp).stay hw ho⟩
  rcases h2 with h2 | ⟨g, ha, hg, h2⟩
  · exact Or.inl h2
  · exact Or.inr ⟨g, ha, ho g hg, fun j u hu => (World.cell?_of_block (a := ⟨g, j, none⟩) (hw g hg)).trans (h2 j u hu)⟩
theorem protosR_count (qr : QR) : ∀ (n : Nat) (l : List UInt8) (bad : Bool) (x : List Pro × List UInt8 × Bool), protosR qr n l bad = some x → x.1.length ≤ n
  | 0, l, bad, x, h => by rw [protosR] at h; obtain rfl := Option.some.inj h; exact Nat.le_refl _
  | n + 1, l, bad, x, h => by
    rw [protosR] at h
    cases e : protoR qr l bad with
    | none => rw [e] at h; simp at h
    | some y =>
      rw [e] at h
      simp only at h
      split at h
      · obtain rfl := Option.some.inj h; simp
      · cases e2 : protosR qr n y.2.1 y.2.2 with
        | none => rw [e2] at h; simp at h
        | some z =>
          rw [e2] at h
          have h2 := protosR_count qr n _ _ _ e2
          simp at h
          subst h
          simp
          omega
/-- WHAT Parse TELLS, where what is quoted is told. -/
def parseU (qr : QR) (bs : List UInt8) : Option (Int × ByteArray × List Pro) :=
  if 60000 < bs.length then some (4, ⟨#[]⟩, [])
  else (unitR qr bs false).map fun r => if r.2.2 = true ∨ 0 < r.2.1.length then (2, ⟨#[]⟩, []) else if wrongU r.1.1 r.1.2 = 0 then (0, r.1) else (wrongU r.1.1 r.1.2, ⟨#[]⟩, [])
def ToldP (r : Int × ByteArray × List Pro) (w : World) (e : Ending) (w' : World) : Prop :=
  ∃ (ps : List PE) (a : Option Addr) (c : Nat), e = .returned (.tuple #[.agg #[.string r.2.1, .slice a ps.length c], .int .i64 r.1]) ∧ ps.map PE.pro = r.2.2 ∧ Below w.heap.size w w' ∧ PEs (fun k => k < w'.heap.size) w' a c ps
theorem ret12 {ts : Array Value} {W : World} {N : Nat} {x0 x1 y : Value} (h : W.heap[N]? = some (.cells #[x0, x1] 24 (0, 0))) (h4 : ts[2]? = some (.pointer (some ⟨N, 0, none⟩))) (h3 : ts[3]? = some y) :
    (results Tryz.f12 ts).run Tryz.prog W = .ok (.tuple #[.agg #[x0, x1], y]) W := by
  have cc : ∀ q, W.cell? ⟨N, q, none⟩ = #[x0, x1][q]? := fun q => by simp [World.cell?, h]
  have q0 := cc 0
  have q1 := cc 1
  simp at q0 q1
  simp [results, Tryz.results12, go_sem, h4, h3, q0, q1]
theorem ToldP.no {y : Int} {w w' : World} (h : Below w.heap.size w w') : ToldP (y, ⟨#[]⟩, []) w (.returned (.tuple #[.agg #[.string ⟨#[]⟩, .slice none 0 0], .int .i64 y])) w' := ⟨[], none, 0, rfl, rfl, h, Nat.le_refl _, Or.inl rfl, by simp⟩
/-- Bytes that are handed over. -/
def ByA (w : World) (a : Option Addr) (cap : Nat) (l : List UInt8) : Prop := (a = none ∧ cap = 0 ∧ l = []) ∨ (∃ A, a = some A ∧ l = []) ∨ ∃ g o, a = some ⟨g, o, none⟩ ∧ g < w.heap.size ∧ ∀ (i : Nat) (c : UInt8), l[i]? = some c → w.cell? ⟨g, o + i, none⟩ = some (.int .u8 ((c.toNat : Nat) : Int))

set_option maxRecDepth 100000 in
set_option maxHeartbeats 6400000 in
theorem Parse_any (qr : QR) (hq : Qok qr) (hqr : ∀ l bad d l' bad', qr l bad = some (d, l', bad') → l'.length ≤ l.length) (bs : List UInt8) (a : Option Addr) (cap : Nat) (w : World) (hb : ByA w a cap bs) (hlc : bs.length ≤ cap) (hcm : cap ≤ maxLen) (htab : TabS w) (htb : Tab w.heap.size w) (r : Int × ByteArray × List Pro) (hr : parseU qr bs = some r) : Calls Tryz.prog 12 #[.slice a bs.length cap] w (ToldP r w) := by
  unfold parseU at hr
  obtain ⟨n, hn⟩ : ∃ n, n = bs.length := ⟨_, rfl⟩
  have HN := hidd hn
  have hcap : cap ≤ 9223372036854775807 := by unfold maxLen at hcm; omega
  have hba := (Below.refl w.heap.size w).alloc (Nat.le_refl _) (.cells #[.string ⟨#[]⟩, .slice none 0 0] 24)
  have HZ := hidd (World.alloc_heap_new w (.cells #[.string ⟨#[]⟩, .slice none 0 0] 24))
  have HBA := hidd hba
  by_cases hbig : 60000 < bs.length
  · rw [if_pos hbig] at hr
    obtain rfl := Option.some.inj hr
    rw [← hn] at hbig ⊢
    have d0 : (w.alloc (.cells #[.string ⟨#[]⟩, .slice none 0 0] 24)).cell? ⟨w.heap.size, 0, none⟩ = some (.string ⟨#[]⟩) := (cellO HZ.out).trans rfl
    have d1 : (w.alloc (.cells #[.string ⟨#[]⟩, .slice none 0 0] 24)).cell? ⟨w.heap.size, 1, none⟩ = some (.slice none 0 0) := (cellO HZ.out).trans rfl
    have k1 := ((Keep.refl w.heap.size (w.alloc (.cells #[.string ⟨#[]⟩, .slice none 0 0] 24))).setCell ⟨w.heap.size, 0, none⟩ rfl (.string ⟨#[]⟩)).setCell ⟨w.heap.size, 1, none⟩ rfl (.slice none 0 0)
    clear hb hr htab htb hba
    go_enter Tryz.func12, Tryz.ntmps12
    go_wp2_with fail
    first
      | exact bodyPost_ret (ret12 (two_at1 (two_at0 HZ.out _) _) rfl rfl) rfl (ToldP.no (HBA.out.trans (k1.toBelow (Nat.le_refl _) (by simp))))
      | exact bodyPost_ret (ret12 HZ.out rfl rfl) rfl (ToldP.no HBA.out)
  rw [if_neg hbig] at hr
  have hn6 : bs.length ≤ 60000 := by omega
  obtain ⟨⟨⟨nm, PP⟩, l3, b3⟩, hu, hre⟩ : ∃ c, unitR qr bs false = some c ∧ (if c.2.2 = true ∨ 0 < c.2.1.length then (2, ⟨#[]⟩, []) else if wrongU c.1.1 c.1.2 = 0 then (0, c.1) else (wrongU c.1.1 c.1.2, ⟨#[]⟩, [])) = r := by
    cases e : unitR qr bs false with
    | none => rw [e] at hr; simp at hr
    | some c => rw [e] at hr; exact ⟨c, rfl, by simpa using hr⟩
  simp only at hre
  have hnm : nm.size ≤ maxLen ∧ PP.length ≤ 60000 := by
    have h1 := textR_len bs false (by unfold maxLen; omega)
    have h2 := textR_left bs false
    have h3 := countR_len (textR bs false).2.1 (textR bs false).2.2
    obtain ⟨m, hm1, hm2⟩ := countR_nat (textR bs false).2.1 (textR bs false).2.2
    unfold unitR at hu
    cases e : protosR qr (countR (textR bs false).2.1 (textR bs false).2.2).1.toNat (countR (textR bs false).2.1 (textR bs false).2.2).2.1 (countR (textR bs false).2.1 (textR bs false).2.2).2.2 with
    | none => rw [e] at hu; simp at hu
    | some c =>
      have h4 := protosR_count qr _ _ _ _ e
      rw [e] at hu
      simp at hu
      rw [← hu.1.1, ← hu.1.2]
      exact ⟨h1, by omega⟩
  have HNMS := hidd hnm
  have b2 : Below w.heap.size w ((w.alloc (.cells #[.string ⟨#[]⟩, .slice none 0 0] 24)).alloc (.cells #[.slice a bs.length cap, .bool false] 73)) := hba.alloc (by simp) _
  have RD0 : Hid (RD ((w.alloc (.cells #[.string ⟨#[]⟩, .slice none 0 0] 24)).alloc (.cells #[.slice a bs.length cap, .bool false] 73)).heap.size (w.heap.size + 1) bs false ((w.alloc (.cells #[.string ⟨#[]⟩, .slice none 0 0] 24)).alloc (.cells #[.slice a bs.length cap, .bool false] 73))) := by
    refine ⟨by simp, Nat.le_refl _, a, cap, ?_, hlc, hcm, ?_, ?_⟩
    · have := World.alloc_heap_new (w.alloc (.cells #[.string ⟨#[]⟩, .slice none 0 0] 24)) (.cells #[.slice a bs.length cap, .bool false] 73)
      simpa using this
    · rcases hb with h | h | ⟨g, o, ha, hg, h⟩
      · exact Or.inl h
      · exact Or.inr (Or.inl h)
      · exact Or.inr <| Or.inr ⟨g, o, ha, by omega, by simp; omega, fun i c hc => (b2.cell (p := ⟨g, o + i, none⟩) hg).trans (h i c hc)⟩
    · obtain ⟨ht, g, hg, hlt⟩ := htb.below b2
      exact ⟨g, hg, by simp; omega, by omega, ht⟩
  have UN := hidd (runit_any qr hq hqr _ _ bs false _ RD0.out hn6 _ hu)
  have HB2 := hidd b2
  have HZ2 := hidd ((Below.heap_alloc (w.alloc (.cells #[.string ⟨#[]⟩, .slice none 0 0] 24)) (.cells #[.slice a bs.length cap, .bool false] 73) w.heap.size (by simp)).trans HZ.out)
  have HTB := hidd htab
  have HRE := hidd hre
  rw [← hn] at hbig ⊢
  rw [← hn] at UN HB2 HZ2
  clear hb hr htab htb hba b2 RD0 HZ HBA hq hqr hu hre hnm hn6 hn hlc hcm
  go_enter Tryz.func12, Tryz.ntmps12
  go_upto_region 4 with fail
  generalize (w.alloc (.cells #[.string ⟨#[]⟩, .slice none 0 0] 24)).alloc (.cells #[.slice a n cap, .bool false] 73) = V at UN HB2 HZ2 ⊢
  go_wp2_with fail
  refine UN.out.mono ?_
  rintro e w1 ⟨ps, a1, c1, rfl, hps, hrd, hk, hpe⟩
  simp only at hps hrd
  have hV1 : w.heap.size + 1 < V.heap.size := hrd.1
  have hks := hk.size
  have hba1 : Below w.heap.size w w1 := HB2.out.trans (hk.toBelow (by omega) (by omega))
  have hz1 := (hk.block _ (by omega) (by simp)).trans HZ2.out
  have bU : Below w1.heap.size w1 (w1.alloc (.cells #[.string nm, .slice a1 ps.length c1] 24)) := (Below.refl _ _).alloc (Nat.le_refl _) _
  have HB3 := hidd (hba1.trans (bU.mono hba1.size))
  have HZ3 := hidd ((bU.block _ (by omega)).trans hz1)
  have HRD := hidd (hrd.below (bU.mono (by omega)))
  have HU3 := hidd (World.alloc_heap_new w1 (.cells #[.string nm, .slice a1 ps.length c1] 24))
  have HPE : Hid (PEs (fun k => k < (w1.alloc (.cells #[.string nm, .slice a1 ps.length c1] 24)).heap.size ∧ w.heap.size < k ∧ k ≠ w1.heap.size) (w1.alloc (.cells #[.string nm, .slice a1 ps.length c1] 24)) a1 c1 ps) := hpe.stay (fun k hk => bU.block k hk.2) (fun k hk => ⟨by simp; omega, by omega, by omega⟩)
  have HPS := hidd hps
  have HLEN : Hid (ps.length = PP.length) := by unfold Hid; rw [← hps, List.length_map]
  have hps6 : ps.length ≤ c1 := hpe.1
  have HSZ : Hid (w.heap.size < w1.heap.size) := by unfold Hid; omega
  clear hrd hk hba1 hz1 bU hpe hps UN HB2 HZ2 hV1 hks
  go_upto_region 5 with fail
  generalize w1.alloc (.cells #[.string nm, .slice a1 ps.length c1] 24) = V3 at HB3 HZ3 HRD HU3 HPE ⊢
  obtain ⟨ub, hub⟩ : ∃ u, u = w1.heap.size := ⟨_, rfl⟩
  rw [← hub] at HU3 HPE HSZ ⊢
  clear hub
  obtain ⟨_, _, la, lc, g1, g2, g3, g4⟩ := id HRD.out
  have r0 : V3.cell? ⟨w.heap.size + 1, 0, none⟩ = some (.slice la l3.length lc) := (cellO g1).trans rfl
  have r1 : V3.cell? ⟨w.heap.size + 1, 1, none⟩ = some (.bool b3) := (cellO g1).trans rfl
  have d0 : V3.cell? ⟨w.heap.size, 0, none⟩ = some (.string ⟨#[]⟩) := (cellO HZ3.out).trans rfl
  have d1 : V3.cell? ⟨w.heap.size, 1, none⟩ = some (.slice none 0 0) := (cellO HZ3.out).trans rfl
  have z0 := looseO (q := 0) HZ3.out
  have z1 := looseO (q := 1) HZ3.out
  have u0 : V3.cell? ⟨ub, 0, none⟩ = some (.string nm) := (cellO HU3.out).trans rfl
  have u1 : V3.cell? ⟨ub, 1, none⟩ = some (.slice a1 ps.length c1) := (cellO HU3.out).trans rfl
  have NO : Hid (∀ y W, W.heap[w.heap.size]? = some (.cells #[.string ⟨#[]⟩, .slice none 0 0] 24 (0, 0)) → Below w.heap.size w W → ((W.setCell ⟨w.heap.size, 0, none⟩ (.string ⟨#[]⟩)).setCell ⟨w.heap.size, 1, none⟩ (.slice none 0 0)).heap[w.heap.size]? = some (.cells #[.string ⟨#[]⟩, .slice none 0 0] 24 (0, 0)) ∧ ToldP (y, ⟨#[]⟩, []) w (.returned (.tuple #[.agg #[.string ⟨#[]⟩, .slice none 0 0], .int .i64 y])) ((W.setCell ⟨w.heap.size, 0, none⟩ (.string ⟨#[]⟩)).setCell ⟨w.heap.size, 1, none⟩ (.slice none 0 0))) := fun y W h1 h2 => ⟨two_at1 (two_at0 h1 _) _, ToldP.no ((h2.setCell (p := ⟨w.heap.size, 0, none⟩) (Nat.le_refl _) _).setCell (p := ⟨w.heap.size, 1, none⟩) (Nat.le_refl _) _)⟩
  clear g1 g2 g3 g4
  obtain ⟨ln, hln⟩ : ∃ n, n = l3.length := ⟨_, rfl⟩
  rw [← hln] at r0 HRE
  clear hln
  cases b3
  case true =>
    have hre := HRE.out
    rw [if_pos (Or.inl rfl)] at hre
    subst hre
    have HN2 := hidd (NO.out 2 V3 HZ3.out HB3.out)
    clear HRE NO
    go_wp2_with fail
    exact bodyPost_ret (ret12 HN2.out.1 rfl rfl) rfl HN2.out.2
  by_cases hl0 : 0 < ln
  · have hre := HRE.out
    rw [if_pos (Or.inr hl0)] at hre
    subst hre
    have HN2 := hidd (NO.out 2 V3 HZ3.out HB3.out)
    clear HRE NO
    go_wp2_with fail
    exact bodyPost_ret (ret12 HN2.out.1 rfl rfl) rfl HN2.out.2
  obtain rfl : ln = 0 := by omega
  have hre := HRE.out
  rw [if_neg (by simp)] at hre
  have HRE2 := hidd hre
  clear hre HRE
  have WU := hidd (WrongU_any nm PP a1 c1 V3 HNMS.out.1 (by have := PEs.pl (B := V3.heap.size) (fun k hk => hk.1) HPE.out; rwa [HPS.out] at this) (by have := HLEN.out; omega) (by have := HNMS.out.2; omega) (HTB.out.below HB3.out))
  rw [← HLEN.out] at WU
  generalize wrongU nm PP = y at WU HRE2
  go_wp2_with fail
  refine WU.out.mono ?_
  rintro e w4 ⟨rfl, hb4⟩
  have HB4 := hidd (HB3.out.trans (hb4.mono HB3.out.size))
  have HZ4 := hidd ((hb4.block _ (Array.getElem?_eq_some_iff.1 HZ3.out).1).trans HZ3.out)
  have HU4 := hidd ((hb4.block _ (Array.getElem?_eq_some_iff.1 HU3.out).1).trans HU3.out)
  have HPE4 : Hid (PEs (fun k => k < w4.heap.size ∧ w.heap.size < k) w4 a1 c1 ps) := HPE.out.stay (fun k hk => hb4.block k hk.1) (fun k hk => ⟨Nat.lt_of_lt_of_le hk.1 hb4.size, hk.2.1⟩)
  clear hb4 WU r0 r1 d0 d1 z0 z1 u0 u1 HZ3 HB3 HU3 HPE HRD
  have d0 : w4.cell? ⟨w.heap.size, 0, none⟩ = some (.string ⟨#[]⟩) := (cellO HZ4.out).trans rfl
  have d1 : w4.cell? ⟨w.heap.size, 1, none⟩ = some (.slice none 0 0) := (cellO HZ4.out).trans rfl
  have z0 := looseO (q := 0) HZ4.out
  have z1 := looseO (q := 1) HZ4.out
  have u0 : w4.cell? ⟨ub, 0, none⟩ = some (.string nm) := (cellO HU4.out).trans rfl
  have u1 : w4.cell? ⟨ub, 1, none⟩ = some (.slice a1 ps.length c1) := (cellO HU4.out).trans rfl
  by_cases y0 : y = 0
  case neg =>
    have y0' : (y != 0) = true := by simpa using y0
    have hre := HRE2.out
    rw [if_neg y0] at hre
    subst hre
    have HN2 := hidd (NO.out y w4 HZ4.out HB4.out)
    clear HRE2 NO
    go_wp2_with fail
    exact bodyPost_ret (ret12 HN2.out.1 rfl rfl) rfl HN2.out.2
  subst y0
  have hre := HRE2.out
  rw [if_pos (by trivial)] at hre
  subst hre
  have k1 := ((Keep.refl w.heap.size w4).setCell ⟨w.heap.size, 0, none⟩ rfl (.string nm)).setCell ⟨w.heap.size, 1, none⟩ rfl (.slice a1 ps.length c1)
  have HFI := hidd (two_at1 (two_at0 HZ4.out (.string nm)) (.slice a1 ps.length c1))
  have HTP : Hid (ToldP (0, nm, PP) w (.returned (.tuple #[.agg #[.string nm, .slice a1 ps.length c1], .int .i64 0])) ((w4.setCell ⟨w.heap.size, 0, none⟩ (.string nm)).setCell ⟨w.heap.size, 1, none⟩ (.slice a1 ps.length c1))) :=
    ⟨ps, a1, c1, rfl, HPS.out, HB4.out.trans (k1.toBelow (Nat.le_refl _) HB4.out.size), HPE4.out.stay (fun k hk => k1.block k hk.1 (by simp; omega)) (fun k hk => Nat.lt_of_lt_of_le hk.1 k1.size)⟩
  clear HRE2 NO k1
  go_wp2_with fail
  exact bodyPost_ret (ret12 HFI.out rfl rfl) rfl HTP.out
end
end Go.Proofs.YtdnbingddbakaaaGreatDoor
