/- Chapter 9: the reader: a unit. -/
import Derived.Test.YtfmanhkeclogfaaGreatDoorK39
namespace Go.Proofs.YtfmanhkeclogfaaGreatDoor
set_option linter.unusedVariables false
set_option linter.unusedSimpArgs false
open Go.RowKit

def protosR (qr : QR) : Nat → List UInt8 → Bool → Option (List Pro × List UInt8 × Bool)
  | 0, l, bad => some ([], l, bad)
  | n + 1, l, bad => match protoR qr l bad with
    | none => none
    | some x => if x.2.2 = true then some ([x.1], x.2.1, true) else (protosR qr n x.2.1 x.2.2).map fun r => (x.1 :: r.1, r.2)
def unitR (qr : QR) (l : List UInt8) (bad : Bool) : Option ((ByteArray × List Pro) × List UInt8 × Bool) := (protosR qr (countR (textR l bad).2.1 (textR l bad).2.2).1.toNat (countR (textR l bad).2.1 (textR l bad).2.2).2.1 (countR (textR l bad).2.1 (textR l bad).2.2).2.2).map fun r => ((⟨(textR l bad).1.toArray⟩, r.1), r.2)
/-- Procedures, in a row. -/
def PEs (ok : Nat → Prop) (w : World) (a : Option Addr) (c : Nat) (ps : List PE) : Prop := ps.length ≤ c ∧ (ps = [] ∨ ∃ g, a = some ⟨g, 0, none⟩ ∧ ok g ∧ ∀ j u, (flatP ps)[j]? = some u → w.cell? ⟨g, j, none⟩ = some u) ∧ ∀ p ∈ ps, p.Ok ok w
def ToldRU (M b : Nat) (r : (ByteArray × List Pro) × List UInt8 × Bool) (w : World) (e : Ending) (w' : World) : Prop :=
  ∃ (ps : List PE) (a : Option Addr) (c : Nat), e = .returned (.agg #[.string r.1.1, .slice a ps.length c]) ∧ ps.map PE.pro = r.1.2 ∧ RD M b r.2.1 r.2.2 w' ∧ Keep b w w' ∧ PEs (fun k => w.heap.size ≤ k ∧ k < w'.heap.size) w' a c ps
theorem codeR_len (qr : QR) (hqr : ∀ l bad d l' bad', qr l bad = some (d, l', bad') → l'.length ≤ l.length) : ∀ (n : Nat) (l : List UInt8) (bad : Bool) (x : List In × List UInt8 × Bool), codeR qr n l bad = some x → x.2.1.length ≤ l.length
  | 0, l, bad, x, h => by rw [codeR] at h; obtain rfl := Option.some.inj h; exact Nat.le_refl _
  | n + 1, l, bad, x, h => by
    rw [codeR] at h
    cases e : insR qr l bad with
    | none => rw [e] at h; simp at h
    | some y =>
      rw [e] at h
      have h1 := insR_len qr hqr e
      simp only at h
      split at h
      · obtain rfl := Option.some.inj h; exact h1
      · cases e2 : codeR qr n y.2.1 y.2.2 with
        | none => rw [e2] at h; simp at h
        | some z =>
          rw [e2] at h
          have h2 := codeR_len qr hqr n _ _ _ e2
          simp at h
          subst h
          simp only
          omega
theorem protoR_len (qr : QR) (hqr : ∀ l bad d l' bad', qr l bad = some (d, l', bad') → l'.length ≤ l.length) {l : List UInt8} {bad : Bool} {x : Pro × List UInt8 × Bool} (h : protoR qr l bad = some x) : x.2.1.length ≤ l.length := by
  unfold protoR at h
  have h1 := numR_len l bad
  have h2 := countR_len (numR l bad).2.1 (numR l bad).2.2
  cases e : codeR qr (countR (numR l bad).2.1 (numR l bad).2.2).1.toNat (countR (numR l bad).2.1 (numR l bad).2.2).2.1 (countR (numR l bad).2.1 (numR l bad).2.2).2.2 with
  | none => rw [e] at h; simp at h
  | some z =>
    rw [e] at h
    have h3 := codeR_len qr hqr _ _ _ _ e
    simp at h
    subst h
    simp only
    omega
theorem GR.doneP {M b P N1 z0 z1 nm tv} {es : List PE} {l bad w W} (h : GR gP M b P N1 #[z0, z1] (.string nm) tv es l bad w W) : ∃ a c, tv = .slice a es.length c ∧ PEs (fun k => w.heap.size ≤ k ∧ k < ((W.setCell ⟨N1, 0, none⟩ (.string nm)).setCell ⟨N1, 1, none⟩ tv).heap.size) ((W.setCell ⟨N1, 0, none⟩ (.string nm)).setCell ⟨N1, 1, none⟩ tv) a c es := by
  obtain ⟨_, _, _, h4, h5⟩ := h.fill
  generalize ((W.setCell ⟨N1, 0, none⟩ (.string nm)).setCell ⟨N1, 1, none⟩ tv) = V at h4 h5 ⊢
  obtain ⟨a, c, htv, hc⟩ := h.slice
  refine ⟨a, c, htv, hc, ?_, h5⟩
  rcases h4.2 with ⟨h0, h1⟩ | ⟨g, cap, cur, h0, hbg, hg, hrest⟩
  · exact Or.inl (List.eq_nil_of_length_eq_zero h1)
  · rw [htv] at h0
    simp at h0
    obtain ⟨rfl, rfl⟩ := h0
    refine Or.inr ⟨g, rfl, ⟨hbg, (Array.getElem?_eq_some_iff.1 hg).1⟩, fun j u hu => ?_⟩
    have hj : j < es.length * 2 := by
      have := (List.getElem?_eq_some_iff.1 hu).1
      simpa [flatP_len] using this
    subst htv
    exact (h4.cellAt j hj).trans hu

set_option maxRecDepth 100000 in
set_option maxHeartbeats 6400000 in
theorem runit_any (qr : QR) (hq : Qok qr) (hqr : ∀ l bad d l' bad', qr l bad = some (d, l', bad') → l'.length ≤ l.length) (M b : Nat) (l : List UInt8) (bad : Bool) (w : World) (h : RD M b l bad w) (hl : l.length ≤ 60000) (r : (ByteArray × List Pro) × List UInt8 × Bool) (hr : unitR qr l bad = some r) : Calls Tryz.prog 31 #[.pointer (some ⟨b, 0, none⟩)] w (ToldRU M b r w) := by
  unfold unitR at hr
  have bz : Below w.heap.size w (w.alloc (.cells #[.string ⟨#[]⟩, .slice none 0 0] 24)) := (Below.refl _ _).alloc (Nat.le_refl _) _
  have HZ := hidd (World.alloc_heap_new w (.cells #[.string ⟨#[]⟩, .slice none 0 0] 24))
  have R0 := hidd (h.below (bz.mono h.2.1))
  have N := hidd (rtext_any M b l bad _ R0.out)
  have HBM : Hid (b < M ∧ M ≤ w.heap.size) := ⟨h.1, h.2.1⟩
  have HBZ := hidd bz
  have hln := textR_left l bad
  have INS : Hid (∀ x l1 b1, l1.length ≤ 60000 → protoR qr l1 b1 = some x → ∀ W, RD M b l1 b1 W → Calls Tryz.prog 62 #[.pointer (some ⟨b, 0, none⟩)] W (ToldRP M b x W)) := fun x l1 b1 hl1 hx W hW => rproto_any qr hq hqr M b l1 b1 W hW hl1 x hx
  have INL : Hid (∀ (l : List UInt8) (bad : Bool) (x : Pro × List UInt8 × Bool), protoR qr l bad = some x → x.2.1.length ≤ l.length) := fun l bad x hx => protoR_len qr hqr hx
  generalize textR l bad = y at hr N hln
  obtain ⟨nl, l1, b1⟩ := y
  simp only at hr hln
  have hlc := countR_len l1 b1
  have CO : Hid (∀ W, RD M b l1 b1 W → Calls Tryz.prog 61 #[.pointer (some ⟨b, 0, none⟩)] W (ToldN M b (countR l1 b1) W)) := fun W hW => rcount_any M b l1 b1 W hW
  have HCN := hidd (countR_nat l1 b1)
  generalize countR l1 b1 = y2 at hr CO HCN hlc
  obtain ⟨nn, l2, b2⟩ := y2
  simp only at hr HCN hlc
  obtain ⟨n, rfl, hn⟩ := HCN.out
  rw [Int.toNat_natCast] at hr
  obtain ⟨nm, hnm⟩ : ∃ x : ByteArray, x = ⟨nl.toArray⟩ := ⟨_, rfl⟩
  obtain ⟨⟨xs, l3, b3⟩, hc, rfl⟩ : ∃ c, protosR qr n l2 b2 = some c ∧ (⟨(nm, c.1), c.2⟩ : (ByteArray × List Pro) × List UInt8 × Bool) = r := by
    cases e : protosR qr n l2 b2 with
    | none => rw [e] at hr; simp at hr
    | some c => rw [e] at hr; exact ⟨c, rfl, by rw [hnm]; simpa using hr⟩
  have HC := hidd hc
  have HLL : Hid (l2.length ≤ 60000 ∧ n ≤ 60000) := ⟨by omega, by omega⟩
  have hn6 : n ≤ 60000 := by omega
  have HNM := hidd hnm
  clear hr h bz hq hqr hln hlc hn HCN hc hl hnm
  go_enter Tryz.func31, Tryz.ntmps31
  go_upto_region 1 with fail
  generalize w.alloc (.cells #[.string ⟨#[]⟩, .slice none 0 0] 24) = V0 at HZ R0 N HBZ ⊢
  go_wp2_with fail
  refine N.out.mono ?_
  rintro e w1 ⟨rfl, h1, k1⟩
  simp only at h1 ⊢
  rw [← HNM.out]
  have GR2 : Hid (GR gP M b w1.heap.size w.heap.size #[.string ⟨#[]⟩, .slice none 0 0] (.string nm) (.slice none 0 0) [] l1 b1 w (w1.alloc (.cells #[.string nm, .slice none 0 0] 24))) := by
    have hlt := (Array.getElem?_eq_some_iff.1 HZ.out).1
    have hsz := k1.size
    have hbm := HBM.out
    have n1 := (k1.block _ hlt (by simp; omega)).trans HZ.out
    have k2 := (Keep.below (Keep.refl b w) HBZ.out).trans k1
    exact ⟨h1.below ((Below.refl _ _).alloc (by omega) _), k2.alloc _, by omega, (Below.heap_alloc _ _ _ (by omega)).trans n1, World.alloc_heap_new w1 _, Nat.le_refl _, by omega, by omega, World.ownsRow_nil _ _ _ _, by simp [Value.ownBlock], by simp [Value.ownBlock], by simp⟩
  clear h1 k1 N R0 HZ HBZ HNM
  go_upto_region 2 with fail
  generalize w1.alloc (.cells #[.string nm, .slice none 0 0] 24) = V2 at GR2 ⊢
  generalize w1.heap.size = P at GR2 ⊢
  obtain ⟨N1, hN1⟩ : ∃ n, n = w.heap.size := ⟨_, rfl⟩
  rw [← hN1] at GR2 ⊢
  have HN1 := hidd hN1
  rw [hN1] at GR2
  have GR2' : Hid (GR gP M b P N1 #[.string ⟨#[]⟩, .slice none 0 0] (.string nm) (.slice none 0 0) [] l1 b1 w V2) := by
    unfold Hid
    rw [hN1]
    exact GR2.out
  clear hN1 GR2
  go_wp2_with fail
  refine (CO.out _ GR2'.out.rd).mono ?_
  rintro e w3 ⟨rfl, h1, k1⟩
  have GR3 := hidd (GR2'.out.call h1 k1)
  simp only at GR3 ⊢
  clear h1 k1 CO GR2'
  go_wp2_with fail
  go_loopw [9] (fun i wr => ∃ (j : Nat) (tv : Value) (es : List PE) (l : List UInt8) (bad : Bool), j ≤ n ∧ i = .int .i64 j ∧ Hid (GR gP M b P N1 #[.string ⟨#[]⟩, .slice none 0 0] (.string nm) tv es l bad w wr ∧ es.length = j ∧ l.length ≤ 60000 ∧ (protosR qr (n - j) l bad).map (fun r => (es.map PE.pro ++ r.1, r.2)) = some (xs, l3, b3))) (fun i _ => n - (intOf i).toNat)
  case atStart => exact ⟨0, _, [], l2, b2, Nat.zero_le _, rfl, GR3.out, rfl, HLL.out.1, by simp [HC.out]⟩
  case round =>
  obtain ⟨j, tv, es, l, bad, hj, rfl, HR⟩ := hrel
  by_cases hlt : j < n
  case neg =>
    obtain rfl : j = n := by omega
    have hfin := HR.out.2.2.2
    rw [Nat.sub_self, protosR] at hfin
    simp at hfin
    obtain ⟨rfl, rfl, rfl⟩ := hfin
    obtain ⟨a, c, htv, hpe⟩ := HR.out.1.doneP
    have HF := hidd HR.out.1.fill
    have HPE := hidd hpe
    have c0 : wr.cell? ⟨P, 0, none⟩ = some (.string nm) := (cellO HR.out.1.p).trans rfl
    have c1 : wr.cell? ⟨P, 1, none⟩ = some tv := (cellO HR.out.1.p).trans rfl
    have d0 : wr.cell? ⟨N1, 0, none⟩ = some (.string ⟨#[]⟩) := (cellO HR.out.1.n1).trans rfl
    have d1 : wr.cell? ⟨N1, 1, none⟩ = some (.slice none 0 0) := (cellO HR.out.1.n1).trans rfl
    have z0 := looseO (q := 0) HR.out.1.n1
    have z1 := looseO (q := 1) HR.out.1.n1
    clear HR GR3 hpe
    subst htv
    go_wp2_with fail
    exact bodyPost_ret (ret31 HF.out.1 rfl) rfl ⟨es, a, c, rfl, rfl, HF.out.2.1, HF.out.2.2.1, HPE.out⟩
  obtain ⟨k, hk⟩ : ∃ k, n - j = k + 1 := ⟨n - j - 1, by omega⟩
  have hfin := HR.out.2.2.2
  rw [hk, protosR] at hfin
  cases hin : protoR qr l bad with
  | none => rw [hin] at hfin; simp at hfin
  | some y =>
  rw [hin] at hfin
  obtain ⟨x, l', bad'⟩ := y
  have IN := hidd (INS.out _ _ _ HR.out.2.2.1 hin)
  have HLN := hidd (INL.out _ _ _ hin)
  simp only at hfin HLN
  have HFI := hidd hfin
  have HKJ : Hid (n - (j + 1) = k) := by unfold Hid; omega
  have C_0 := hidd HR.out.1.drew
  have HLEN : Hid (es.length + 1 ≤ 60000) := by have := HR.out.2.1; unfold Hid; omega
  have HRE := hidd HR.out.2
  clear hin hfin hk HR
  go_upto_region 4 with fail
  go_cut [] from 11 to 17 (fun wx => ∃ (tv' : Value) (e : PE), Hid (GR gP M b P N1 #[.string ⟨#[]⟩, .slice none 0 0] (.string nm) tv' (es ++ [e]) l' bad' w wx) ∧ Hid (e.pro = x))
  case first =>
    refine wp_region_held_drew (S := fun u => True) (by kernel_rfl) trivial (fun hS => ?_)
    refine wpAnyH_take (i := 0) (oi := { dst := some 11, op := Op.fieldAddr 24 (Operand.tmp 3) 1, type := 0, pos := _, after := _, guard := none }) (v := .pointer (some ⟨P, 1, none⟩)) rfl (by kernel_rfl) (by kernel_rfl) (by kernel_rfl) (fun _ _ _ h => h) (Or.inl ⟨by rfl, fun u hu => by go_simp⟩) hS ?_
    simp only [Act.put, List.setIfInBounds_toArray, List.set_cons_zero, List.set_cons_succ]
    refine wpAnyH_take (i := 2) (oi := { dst := some 13, op := Op.move (Operand.tmp 0), type := 114, pos := _, after := _, guard := none }) (v := .pointer (some ⟨b, 0, none⟩)) rfl (by kernel_rfl) (by kernel_rfl) (by kernel_rfl) (fun _ _ _ h => h) (Or.inl ⟨by rfl, fun u hu => by go_simp⟩) hS ?_
    simp only [Act.put, List.setIfInBounds_toArray, List.set_cons_zero, List.set_cons_succ]
    refine wpAnyH_ready (rs := [1, 3]) (by kernel_rfl) (by simp) (AllReadyH.cons (o := { dst := some 12, op := Op.load 22 (Operand.tmp 11), type := 22, pos := _, after := _, guard := none }) rfl (fun K hK => ?_) (AllReadyH.cons (o := { dst := some 14, op := Op.call { callee := Callee.value (Operand.func 62), args := #[Operand.tmp 13], argTypes := #[114] }, type := 47, pos := _, after := _, guard := none }) rfl (fun K hK => ?_) AllReadyH.nil))
    · have zt : (wr.drew).cell? ⟨P, 1, none⟩ = some tv := (cellO C_0.out.p).trans rfl
      go_simp
      clear zt
      refine hK.out _ _ trivial (fun hS => ?_)
      clear hK K
      refine wpAnyH_ready (rs := [3]) (by kernel_rfl) (by simp) (AllReadyH.cons (o := { dst := some 14, op := Op.call { callee := Callee.value (Operand.func 62), args := #[Operand.tmp 13], argTypes := #[114] }, type := 47, pos := _, after := _, guard := none }) rfl (fun K hK => ?_) AllReadyH.nil)
      go_simp
      refine (IN.out (wr.drew) C_0.out.rd).mono ?_
      rintro e W1 ⟨pe, rfl, hpe, hr1, hk1, hok1⟩
      have HPE := hidd hpe
      have ONE : Hid (∀ u ∈ pe.cells, u.oneCell' = true) := by
        intro u hu
        simp [PE.cells] at hu
        rcases hu with rfl | rfl <;> rfl
      have C_1 := hidd (C_0.out.call hr1 hk1)
      have X_1 : Hid (PE.Ok (fun k => w.heap.size ≤ k ∧ k < W1.heap.size ∧ k ≠ P ∧ k ≠ N1 ∧ some k ≠ tv.ownBlock) W1 pe) := hok1.stay (fun _ _ => rfl) (fun k hk => ⟨Nat.le_trans C_0.out.kb.size hk.1, hk.2, by have := (Array.getElem?_eq_some_iff.1 C_0.out.p).1; omega, by have := (Array.getElem?_eq_some_iff.1 C_0.out.n1).1; omega, fun e => by have := (C_0.out.row.lt k e.symm).2; omega⟩)
      clear hr1 hk1 hok1 hpe C_0
      show K _ W1
      refine hK.out _ _ trivial (fun hS => ?_)
      clear hK K
      refine wpAnyH_ready (rs := [4]) (by kernel_rfl) (by simp) (AllReadyH.cons (o := { dst := some 15, op := Op.buildSlice 22 1 #[(0, Operand.tmp 14)], type := 22, pos := _, after := _, guard := none }) rfl (fun K hK => ?_) AllReadyH.nil)
      go_simp
      have hb2 : Below W1.heap.size W1 (W1.alloc (.cells #[.int .i64 pe.args, .slice pe.a pe.es.length pe.c] 47)) := (Below.refl _ _).alloc (Nat.le_refl _) _
      have AC_2 := hidd (World.alloc_heap_new W1 (.cells #[.int .i64 pe.args, .slice pe.a pe.es.length pe.c] 47))
      have C_2 := hidd (C_1.out.below hb2)
      have X_2 := hidd (X_1.out.stay (fun k hk => hb2.block k hk.2.1) (fun k hk => (⟨hk.1, Nat.lt_of_lt_of_le hk.2.1 hb2.size, hk.2.2⟩ : w.heap.size ≤ k ∧ k < (W1.alloc (.cells #[.int .i64 pe.args, .slice pe.a pe.es.length pe.c] 47)).heap.size ∧ k ≠ P ∧ k ≠ N1 ∧ some k ≠ tv.ownBlock)))
      change K _ (W1.alloc (.cells #[.int .i64 pe.args, .slice pe.a pe.es.length pe.c] 47))
      generalize W1.alloc (.cells #[.int .i64 pe.args, .slice pe.a pe.es.length pe.c] 47) = W2 at AC_2 C_2 X_2 ⊢
      generalize W1.heap.size = nb at AC_2 ⊢
      clear hb2 C_1 X_1
      refine hK.out _ _ trivial (fun hS => ?_)
      clear hK K
      refine wpAnyH_ready (rs := [5]) (by kernel_rfl) (by simp) (AllReadyH.cons (o := { dst := some 16, op := Op.call { callee := Callee.builtin Builtin.append, args := #[Operand.tmp 12, Operand.tmp 15], argTypes := #[22, 22] }, type := 22, pos := _, after := _, guard := none }) rfl (fun K hK => ?_) AllReadyH.nil)
      obtain ⟨i0, hinf, hz0, hz1, hz2⟩ := info_parts infoPro
      refine step_append_where rfl (.tmp 12) (.tmp 15) 22 rfl w.heap.size 47 i0 _ 2 32 Tryz.underlying22 hinf hz0 hz1 hz2 rfl (by decide) tv es.length (es.flatMap gP.cells) rfl (by exact C_2.out.row) ⟨nb, 0, none⟩ 1 1 (pe).cells rfl rfl ?_ ONE.out (by decide) ?_ ?_ ?_ ?_
      · intro q u hq
        have hcell := cellO (q := q) AC_2.out
        have hadd := addr_add nb q
        rw [hadd, hcell]
        simpa [IE.cells, ic, PE.cells] using hq
      · have := HLEN.out; unfold maxLen; omega
      · have := HLEN.out; omega
      · exact Nat.le_trans C_2.out.kb.size (Nat.le_refl _)
      intro tv' w4 hown4 hg4 hw4
      have PU := hidd (C_2.out.push (e := pe) X_2.out hown4 hg4 hw4)
      have P4 : w4.heap[P]? = some (.cells #[.string nm, tv] 24 (0, 0)) := (hg4.block P (Array.getElem?_eq_some_iff.1 C_2.out.p).1 (fun e => C_2.out.s1 e.symm)).trans C_2.out.p
      have P4H := hidd P4
      clear hown4 hg4 hw4 P4 hinf hz0 hz1 hz2
      clear C_2 X_2 AC_2
      show K _ w4
      refine hK.out _ _ trivial (fun hS => ?_)
      clear hK K
      refine wpAnyH_take (i := 6) (oi := { dst := some 17, op := Op.fieldAddr 24 (Operand.tmp 3) 1, type := 0, pos := _, after := _, guard := none }) (v := .pointer (some ⟨P, 1, none⟩)) rfl (by kernel_rfl) (by kernel_rfl) (by kernel_rfl) (fun _ _ _ h => h) (Or.inl ⟨by rfl, fun u hu => by go_simp⟩) hS ?_
      simp only [Act.put, List.setIfInBounds_toArray, List.set_cons_zero, List.set_cons_succ]
      refine wpAnyH_ready (rs := [7]) (by kernel_rfl) (by simp) (AllReadyH.cons (o := { dst := none, op := Op.store 22 (Operand.tmp 17) (Operand.tmp 16), type := 0, pos := _, after := _, guard := none }) rfl (fun K hK => ?_) AllReadyH.nil)
      have n0 : w4.cell? ⟨P, 1, none⟩ = some tv := (cellO P4H.out).trans rfl
      have nz := looseO (q := 1) P4H.out
      obtain ⟨ta, tc, htv, htc⟩ := PU.out.slice
      subst htv
      go_simp
      clear n0 nz P4H
      refine hK.out _ _ trivial (fun hS => ?_)
      clear hK K
      refine wpAnyH_done (by kernel_rfl) ?_ _
      go_wp2_with fail
      go_meet
      case rel =>
        exact ⟨_, _, PU.out, HPE.out⟩
    · go_simp
      refine (IN.out (wr.drew) C_0.out.rd).mono ?_
      rintro e W1 ⟨pe, rfl, hpe, hr1, hk1, hok1⟩
      have HPE := hidd hpe
      have ONE : Hid (∀ u ∈ pe.cells, u.oneCell' = true) := by
        intro u hu
        simp [PE.cells] at hu
        rcases hu with rfl | rfl <;> rfl
      have C_1 := hidd (C_0.out.call hr1 hk1)
      have X_1 : Hid (PE.Ok (fun k => w.heap.size ≤ k ∧ k < W1.heap.size ∧ k ≠ P ∧ k ≠ N1 ∧ some k ≠ tv.ownBlock) W1 pe) := hok1.stay (fun _ _ => rfl) (fun k hk => ⟨Nat.le_trans C_0.out.kb.size hk.1, hk.2, by have := (Array.getElem?_eq_some_iff.1 C_0.out.p).1; omega, by have := (Array.getElem?_eq_some_iff.1 C_0.out.n1).1; omega, fun e => by have := (C_0.out.row.lt k e.symm).2; omega⟩)
      clear hr1 hk1 hok1 hpe C_0
      show K _ W1
      refine hK.out _ _ trivial (fun hS => ?_)
      clear hK K
      refine wpAnyH_ready (rs := [1, 4]) (by kernel_rfl) (by simp) (AllReadyH.cons (o := { dst := some 12, op := Op.load 22 (Operand.tmp 11), type := 22, pos := _, after := _, guard := none }) rfl (fun K hK => ?_) (AllReadyH.cons (o := { dst := some 15, op := Op.buildSlice 22 1 #[(0, Operand.tmp 14)], type := 22, pos := _, after := _, guard := none }) rfl (fun K hK => ?_) AllReadyH.nil))
      · have zt : (W1).cell? ⟨P, 1, none⟩ = some tv := (cellO C_1.out.p).trans rfl
        go_simp
        clear zt
        refine hK.out _ _ trivial (fun hS => ?_)
        clear hK K
        refine wpAnyH_ready (rs := [4]) (by kernel_rfl) (by simp) (AllReadyH.cons (o := { dst := some 15, op := Op.buildSlice 22 1 #[(0, Operand.tmp 14)], type := 22, pos := _, after := _, guard := none }) rfl (fun K hK => ?_) AllReadyH.nil)
        go_simp
        have hb2 : Below W1.heap.size W1 (W1.alloc (.cells #[.int .i64 pe.args, .slice pe.a pe.es.length pe.c] 47)) := (Below.refl _ _).alloc (Nat.le_refl _) _
        have AC_2 := hidd (World.alloc_heap_new W1 (.cells #[.int .i64 pe.args, .slice pe.a pe.es.length pe.c] 47))
        have C_2 := hidd (C_1.out.below hb2)
        have X_2 := hidd (X_1.out.stay (fun k hk => hb2.block k hk.2.1) (fun k hk => (⟨hk.1, Nat.lt_of_lt_of_le hk.2.1 hb2.size, hk.2.2⟩ : w.heap.size ≤ k ∧ k < (W1.alloc (.cells #[.int .i64 pe.args, .slice pe.a pe.es.length pe.c] 47)).heap.size ∧ k ≠ P ∧ k ≠ N1 ∧ some k ≠ tv.ownBlock)))
        change K _ (W1.alloc (.cells #[.int .i64 pe.args, .slice pe.a pe.es.length pe.c] 47))
        generalize W1.alloc (.cells #[.int .i64 pe.args, .slice pe.a pe.es.length pe.c] 47) = W2 at AC_2 C_2 X_2 ⊢
        generalize W1.heap.size = nb at AC_2 ⊢
        clear hb2 C_1 X_1
        refine hK.out _ _ trivial (fun hS => ?_)
        clear hK K
        refine wpAnyH_ready (rs := [5]) (by kernel_rfl) (by simp) (AllReadyH.cons (o := { dst := some 16, op := Op.call { callee := Callee.builtin Builtin.append, args := #[Operand.tmp 12, Operand.tmp 15], argTypes := #[22, 22] }, type := 22, pos := _, after := _, guard := none }) rfl (fun K hK => ?_) AllReadyH.nil)
        obtain ⟨i0, hinf, hz0, hz1, hz2⟩ := info_parts infoPro
        refine step_append_where rfl (.tmp 12) (.tmp 15) 22 rfl w.heap.size 47 i0 _ 2 32 Tryz.underlying22 hinf hz0 hz1 hz2 rfl (by decide) tv es.length (es.flatMap gP.cells) rfl (by exact C_2.out.row) ⟨nb, 0, none⟩ 1 1 (pe).cells rfl rfl ?_ ONE.out (by decide) ?_ ?_ ?_ ?_
        · intro q u hq
          have hcell := cellO (q := q) AC_2.out
          have hadd := addr_add nb q
          rw [hadd, hcell]
          simpa [IE.cells, ic, PE.cells] using hq
        · have := HLEN.out; unfold maxLen; omega
        · have := HLEN.out; omega
        · exact Nat.le_trans C_2.out.kb.size (Nat.le_refl _)
        intro tv' w4 hown4 hg4 hw4
        have PU := hidd (C_2.out.push (e := pe) X_2.out hown4 hg4 hw4)
        have P4 : w4.heap[P]? = some (.cells #[.string nm, tv] 24 (0, 0)) := (hg4.block P (Array.getElem?_eq_some_iff.1 C_2.out.p).1 (fun e => C_2.out.s1 e.symm)).trans C_2.out.p
        have P4H := hidd P4
        clear hown4 hg4 hw4 P4 hinf hz0 hz1 hz2
        clear C_2 X_2 AC_2
        show K _ w4
        refine hK.out _ _ trivial (fun hS => ?_)
        clear hK K
        refine wpAnyH_take (i := 6) (oi := { dst := some 17, op := Op.fieldAddr 24 (Operand.tmp 3) 1, type := 0, pos := _, after := _, guard := none }) (v := .pointer (some ⟨P, 1, none⟩)) rfl (by kernel_rfl) (by kernel_rfl) (by kernel_rfl) (fun _ _ _ h => h) (Or.inl ⟨by rfl, fun u hu => by go_simp⟩) hS ?_
        simp only [Act.put, List.setIfInBounds_toArray, List.set_cons_zero, List.set_cons_succ]
        refine wpAnyH_ready (rs := [7]) (by kernel_rfl) (by simp) (AllReadyH.cons (o := { dst := none, op := Op.store 22 (Operand.tmp 17) (Operand.tmp 16), type := 0, pos := _, after := _, guard := none }) rfl (fun K hK => ?_) AllReadyH.nil)
        have n0 : w4.cell? ⟨P, 1, none⟩ = some tv := (cellO P4H.out).trans rfl
        have nz := looseO (q := 1) P4H.out
        obtain ⟨ta, tc, htv, htc⟩ := PU.out.slice
        subst htv
        go_simp
        clear n0 nz P4H
        refine hK.out _ _ trivial (fun hS => ?_)
        clear hK K
        refine wpAnyH_done (by kernel_rfl) ?_ _
        go_wp2_with fail
        go_meet
        case rel =>
          exact ⟨_, _, PU.out, HPE.out⟩
      · go_simp
        have hb2 : Below W1.heap.size W1 (W1.alloc (.cells #[.int .i64 pe.args, .slice pe.a pe.es.length pe.c] 47)) := (Below.refl _ _).alloc (Nat.le_refl _) _
        have AC_2 := hidd (World.alloc_heap_new W1 (.cells #[.int .i64 pe.args, .slice pe.a pe.es.length pe.c] 47))
        have C_2 := hidd (C_1.out.below hb2)
        have X_2 := hidd (X_1.out.stay (fun k hk => hb2.block k hk.2.1) (fun k hk => (⟨hk.1, Nat.lt_of_lt_of_le hk.2.1 hb2.size, hk.2.2⟩ : w.heap.size ≤ k ∧ k < (W1.alloc (.cells #[.int .i64 pe.args, .slice pe.a pe.es.length pe.c] 47)).heap.size ∧ k ≠ P ∧ k ≠ N1 ∧ some k ≠ tv.ownBlock)))
        change K _ (W1.alloc (.cells #[.int .i64 pe.args, .slice pe.a pe.es.length pe.c] 47))
        generalize W1.alloc (.cells #[.int .i64 pe.args, .slice pe.a pe.es.length pe.c] 47) = W2 at AC_2 C_2 X_2 ⊢
        generalize W1.heap.size = nb at AC_2 ⊢
        clear hb2 C_1 X_1
        refine hK.out _ _ trivial (fun hS => ?_)
        clear hK K
        refine wpAnyH_ready (rs := [1]) (by kernel_rfl) (by simp) (AllReadyH.cons (o := { dst := some 12, op := Op.load 22 (Operand.tmp 11), type := 22, pos := _, after := _, guard := none }) rfl (fun K hK => ?_) AllReadyH.nil)
        have zt : (W2).cell? ⟨P, 1, none⟩ = some tv := (cellO C_2.out.p).trans rfl
        go_simp
        clear zt
        refine hK.out _ _ trivial (fun hS => ?_)
        clear hK K
        refine wpAnyH_ready (rs := [5]) (by kernel_rfl) (by simp) (AllReadyH.cons (o := { dst := some 16, op := Op.call { callee := Callee.builtin Builtin.append, args := #[Operand.tmp 12, Operand.tmp 15], argTypes := #[22, 22] }, type := 22, pos := _, after := _, guard := none }) rfl (fun K hK => ?_) AllReadyH.nil)
        obtain ⟨i0, hinf, hz0, hz1, hz2⟩ := info_parts infoPro
        refine step_append_where rfl (.tmp 12) (.tmp 15) 22 rfl w.heap.size 47 i0 _ 2 32 Tryz.underlying22 hinf hz0 hz1 hz2 rfl (by decide) tv es.length (es.flatMap gP.cells) rfl (by exact C_2.out.row) ⟨nb, 0, none⟩ 1 1 (pe).cells rfl rfl ?_ ONE.out (by decide) ?_ ?_ ?_ ?_
        · intro q u hq
          have hcell := cellO (q := q) AC_2.out
          have hadd := addr_add nb q
          rw [hadd, hcell]
          simpa [IE.cells, ic, PE.cells] using hq
        · have := HLEN.out; unfold maxLen; omega
        · have := HLEN.out; omega
        · exact Nat.le_trans C_2.out.kb.size (Nat.le_refl _)
        intro tv' w4 hown4 hg4 hw4
        have PU := hidd (C_2.out.push (e := pe) X_2.out hown4 hg4 hw4)
        have P4 : w4.heap[P]? = some (.cells #[.string nm, tv] 24 (0, 0)) := (hg4.block P (Array.getElem?_eq_some_iff.1 C_2.out.p).1 (fun e => C_2.out.s1 e.symm)).trans C_2.out.p
        have P4H := hidd P4
        clear hown4 hg4 hw4 P4 hinf hz0 hz1 hz2
        clear C_2 X_2 AC_2
        show K _ w4
        refine hK.out _ _ trivial (fun hS => ?_)
        clear hK K
        refine wpAnyH_take (i := 6) (oi := { dst := some 17, op := Op.fieldAddr 24 (Operand.tmp 3) 1, type := 0, pos := _, after := _, guard := none }) (v := .pointer (some ⟨P, 1, none⟩)) rfl (by kernel_rfl) (by kernel_rfl) (by kernel_rfl) (fun _ _ _ h => h) (Or.inl ⟨by rfl, fun u hu => by go_simp⟩) hS ?_
        simp only [Act.put, List.setIfInBounds_toArray, List.set_cons_zero, List.set_cons_succ]
        refine wpAnyH_ready (rs := [7]) (by kernel_rfl) (by simp) (AllReadyH.cons (o := { dst := none, op := Op.store 22 (Operand.tmp 17) (Operand.tmp 16), type := 0, pos := _, after := _, guard := none }) rfl (fun K hK => ?_) AllReadyH.nil)
        have n0 : w4.cell? ⟨P, 1, none⟩ = some tv := (cellO P4H.out).trans rfl
        have nz := looseO (q := 1) P4H.out
        obtain ⟨ta, tc, htv, htc⟩ := PU.out.slice
        subst htv
        go_simp
        clear n0 nz P4H
        refine hK.out _ _ trivial (fun hS => ?_)
        clear hK K
        refine wpAnyH_done (by kernel_rfl) ?_ _
        go_wp2_with fail
        go_meet
        case rel =>
          exact ⟨_, _, PU.out, HPE.out⟩
  case rest =>
    obtain ⟨tv', e, GN, HE⟩ := hcut
    have c1 : wc.cell? ⟨b, 1, none⟩ = some (.bool bad') := by
      obtain ⟨_, _, a, cap, g1, _⟩ := GN.out.rd
      exact (cellO g1).trans rfl
    have EM : Hid ((es ++ [e]).map PE.pro = es.map PE.pro ++ [x]) := by unfold Hid; rw [List.map_append, List.map_singleton, HE.out]
    cases bad'
    case false =>
      go_wp2_with fail
      go_roundw
      case rel =>
        refine ⟨j + 1, tv', es ++ [e], l', false, by omega, by go_num, GN.out, by have := HRE.out.1; simp; omega, by have := HLN.out; have := HRE.out.2.1; omega, ?_⟩
        have hf := HFI.out
        rw [if_neg (by simp), Option.map_map] at hf
        rw [HKJ.out, EM.out, ← hf]
        congr 1
        funext r
        simp
      case measure => simp [intOf]; omega
    case true =>
      have hf := HFI.out
      rw [if_pos rfl] at hf
      simp at hf
      obtain ⟨hx1, rfl, rfl⟩ := hf
      obtain ⟨fs, hfs⟩ : ∃ f, f = es ++ [e] := ⟨_, rfl⟩
      rw [← hfs] at GN EM
      clear hfs
      obtain ⟨a, c, htv, hpe⟩ := GN.out.doneP
      have HF := hidd GN.out.fill
      have HPE := hidd hpe
      have HXS : Hid (fs.map PE.pro = xs) := by unfold Hid; rw [EM.out, hx1]
      have e0 : wc.cell? ⟨P, 0, none⟩ = some (.string nm) := (cellO GN.out.p).trans rfl
      have e1 : wc.cell? ⟨P, 1, none⟩ = some tv' := (cellO GN.out.p).trans rfl
      have d0 : wc.cell? ⟨N1, 0, none⟩ = some (.string ⟨#[]⟩) := (cellO GN.out.n1).trans rfl
      have d1 : wc.cell? ⟨N1, 1, none⟩ = some (.slice none 0 0) := (cellO GN.out.n1).trans rfl
      have z0 := looseO (q := 0) GN.out.n1
      have z1 := looseO (q := 1) GN.out.n1
      clear GN HRE HFI hx1 EM GR3 hpe
      subst htv
      go_wp2_with fail
      exact bodyPost_ret (ret31 HF.out.1 rfl) rfl ⟨fs, a, c, rfl, HXS.out, HF.out.2.1, HF.out.2.2.1, HPE.out⟩
end Go.Proofs.YtfmanhkeclogfaaGreatDoor
