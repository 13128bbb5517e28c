/- Chapter 9: the reader: numbers. -/
import Derived.Test.YtfmanhkeclogfaaGreatDoorK35
import Derived.Laws.Bits64b
namespace Go.Proofs.YtfmanhkeclogfaaGreatDoor
set_option linter.unusedVariables false
set_option linter.unusedSimpArgs false
open Go.RowKit

/-- A number at the front of bytes: it, what is left, and whether fewer bytes would do. -/
def takeN : List UInt8 → Nat → Nat → Option (Nat × List UInt8 × Bool)
  | [], _, _ => none
  | c :: r, i, acc => if i = 9 ∧ 1 < c.toNat then none else if c.toNat < 128 then some (acc + c.toNat * 128 ^ i, r, c.toNat == 0 && decide (0 < i)) else takeN r (i + 1) (acc + (c.toNat % 128) * 128 ^ i)
def unz (u : Nat) : Int := if u % 2 = 0 then ((u / 2 : Nat) : Int) else -((u / 2 : Nat) : Int) - 1
def numR (l : List UInt8) (bad : Bool) : Int × List UInt8 × Bool := match takeN l 0 0 with | none => (0, l, true) | some (u, r, z) => (unz u, r, bad || z)
theorem takeN_drop {l : List UInt8} {k acc : Nat} {c : UInt8} (h : l[k]? = some c) : takeN (l.drop k) k acc = if k = 9 ∧ 1 < c.toNat then none else if c.toNat < 128 then some (acc + c.toNat * 128 ^ k, l.drop (k + 1), c.toNat == 0 && decide (0 < k)) else takeN (l.drop (k + 1)) (k + 1) (acc + (c.toNat % 128) * 128 ^ k) := by
  obtain ⟨hi, e⟩ := List.getElem?_eq_some_iff.1 h
  rw [List.drop_eq_getElem_cons hi, e, takeN]
set_option maxRecDepth 100000 in
theorem and127 : ∀ a : Fin 256, a.val &&& 127 = a.val % 128 := by decide
theorem acc_eq {acc c k : Nat} (hc : c < 256) (hk : k ≤ 9) (h9 : k = 9 → c ≤ 1) (ha : acc < 128 ^ k) :
    bits .or .u64 (acc : Int) (IntKind.u64.wrap (IntKind.u64.wrap (bits .andNot .u8 (c : Int) 128) * 2 ^ (7 * k))) = ((acc + (c % 128) * 128 ^ k : Nat) : Int) ∧ acc + (c % 128) * 128 ^ k < 18446744073709551616 ∧ (k < 9 → acc + (c % 128) * 128 ^ k < 128 ^ (k + 1)) := by
  have hm : c % 128 < 128 := Nat.mod_lt _ (by omega)
  have hp : 128 ^ k ≤ 128 ^ 9 := Nat.pow_le_pow_right (by omega) hk
  have hpos : 0 < 128 ^ k := Nat.pow_pos (by omega)
  have hlt : acc + (c % 128) * 128 ^ k < 128 ^ (k + 1) := by
    rw [Nat.pow_succ]
    have : (c % 128) * 128 ^ k ≤ 127 * 128 ^ k := Nat.mul_le_mul_right _ (by omega)
    omega
  have hlt2 : acc + (c % 128) * 128 ^ k < 18446744073709551616 := by
    by_cases e : k = 9
    · subst e
      have hc1 : c % 128 ≤ 1 := by have := h9 rfl; omega
      have : (c % 128) * 128 ^ 9 ≤ 1 * 128 ^ 9 := Nat.mul_le_mul_right _ hc1
      have e9 : 128 ^ 9 = 9223372036854775808 := by decide
      rw [e9] at this ha ⊢
      omega
    · have h8 : 128 ^ (k + 1) ≤ 128 ^ 9 := Nat.pow_le_pow_right (by omega) (by omega)
      have e9 : 128 ^ 9 = 9223372036854775808 := by decide
      omega
  refine ⟨?_, hlt2, fun _ => hlt⟩
  have e1 : bits .andNot .u8 (c : Int) 128 = ((c % 128 : Nat) : Int) := by
    have h := u8_andNot_nat c 128 hc (by omega)
    rw [show ((128 : Nat) : Int) = 128 from rfl] at h
    rw [h]
    have := and127 ⟨c, hc⟩
    simp only at this
    rw [show 255 - 128 = 127 from rfl, this]
  have hsm : (c % 128) * 128 ^ k < 18446744073709551616 := by omega
  rw [e1, IntKind.wrap_u64, IntKind.wrap_u64]
  have e2 : (((c % 128 : Nat) : Int) % 18446744073709551616) = ((c % 128 : Nat) : Int) := by omega
  have e3 : ((c % 128 : Nat) : Int) * 2 ^ (7 * k) = (((c % 128) * 128 ^ k : Nat) : Int) := by
    rw [Int.natCast_mul, Int.natCast_pow, Int.pow_mul]
    rfl
  rw [e2, e3]
  have e4 : ((((c % 128) * 128 ^ k : Nat) : Int) % 18446744073709551616) = (((c % 128) * 128 ^ k : Nat) : Int) := by omega
  rw [e4, bits_or_u64_nat _ _ (by omega) hsm]
  congr 1
  have e5 : 128 ^ k = 2 ^ (7 * k) := by rw [Nat.pow_mul]
  rw [e5] at ha ⊢
  rw [Nat.or_comm, Nat.mul_comm, Nat.add_comm]
  exact (Nat.two_pow_add_eq_or_of_lt ha _).symm
theorem xor_m1 (x : Nat) (h : x < 9223372036854775808) : bits .xor .i64 (x : Int) (-1) = -(x : Int) - 1 := by
  show IntKind.i64.wrap ((BitVec.ofInt 64 (x : Int) ^^^ BitVec.ofInt 64 (-1)).toNat : Int) = _
  rw [show BitVec.ofInt 64 (-1) = BitVec.allOnes 64 by decide, BitVec.xor_allOnes, BitVec.toNat_not, BitVec.ofInt_natCast, BitVec.toNat_ofNat, Nat.mod_eq_of_lt (by omega), IntKind.wrap_i64]
  omega
theorem xor_0 (x : Nat) (h : x < 9223372036854775808) : bits .xor .i64 (x : Int) 0 = (x : Int) := by
  show IntKind.i64.wrap ((BitVec.ofInt 64 (x : Int) ^^^ BitVec.ofInt 64 0).toNat : Int) = _
  rw [show BitVec.ofInt 64 0 = 0#64 by decide, BitVec.xor_zero, BitVec.ofInt_natCast, BitVec.toNat_ofNat, Nat.mod_eq_of_lt (by omega), IntKind.wrap_i64]
  omega
theorem unz_eq {u : Nat} (h : u < 18446744073709551616) : bits .xor .i64 (wrap64 ((u : Int) / 2)) (wrap64 (-wrap64 (bits .and .u64 (u : Int) 1))) = unz u := by
  have e1 : bits .and .u64 (u : Int) 1 = ((u % 2 : Nat) : Int) := by
    have := bits_and_u64_nat u 1 h (by omega)
    rw [show ((1 : Nat) : Int) = 1 from rfl] at this
    rw [this, Nat.and_one_is_mod]
  have e2 : wrap64 ((u : Int) / 2) = ((u / 2 : Nat) : Int) := by unfold wrap64; omega
  rw [e1, e2]
  unfold unz
  by_cases hu : u % 2 = 0
  · rw [if_pos hu, hu, show wrap64 (-wrap64 ((0 : Nat) : Int)) = 0 by unfold wrap64; omega]
    exact xor_0 _ (by omega)
  · rw [if_neg hu, show u % 2 = 1 by omega, show wrap64 (-wrap64 ((1 : Nat) : Int)) = -1 by unfold wrap64; omega]
    exact xor_m1 _ (by omega)

/-- Bytes that lie in memory, in another block than b. -/
def ByG (M b : Nat) (w : World) (a : Option Addr) (cap : Nat) (l : List UInt8) : Prop := (a = none ∧ cap = 0 ∧ l = []) ∨ ∃ g o, a = some ⟨g, o, none⟩ ∧ g ≠ b ∧ g < M ∧ ∀ (i : Nat) (c : UInt8), l[i]? = some c → w.cell? ⟨g, o + i, none⟩ = some (.int .u8 ((c.toNat : Nat) : Int))
theorem ByG.keep {M b cap : Nat} {w w' : World} {a : Option Addr} {l : List UInt8} (h : ByG M b w a cap l) (hM : M ≤ w.heap.size) (hb : Keep b w w') : ByG M b w' a cap l := by
  rcases h with h | ⟨g, o, ha, hg, hs, h⟩
  · exact Or.inl h
  · exact Or.inr ⟨g, o, ha, hg, hs, fun i c hc => (hb.cell (p := ⟨g, o + i, none⟩) (Nat.lt_of_lt_of_le hs hM) hg).trans (h i c hc)⟩
/-- THE READER AT WORK: what is left; whether it is bad. -/
def RD (M b : Nat) (l : List UInt8) (bad : Bool) (w : World) : Prop := b < M ∧ M ≤ w.heap.size ∧ ∃ a cap, w.heap[b]? = some (.cells #[.slice a l.length cap, .bool bad] 73 (0, 0)) ∧ l.length ≤ cap ∧ cap ≤ maxLen ∧ ByG M b w a cap l
theorem two_at0 {C : Nat} {u : World} {z0 z1 : Value} {t : TypeId} (h : u.heap[C]? = some (.cells #[z0, z1] t (0, 0))) (x : Value) : (u.setCell ⟨C, 0, none⟩ x).heap[C]? = some (.cells #[x, z1] t (0, 0)) := by
  have h1 := heap_setCell_same u C 0 _ t x h
  rw [h1]; rfl
theorem two_at1 {C : Nat} {u : World} {z0 z1 : Value} {t : TypeId} (h : u.heap[C]? = some (.cells #[z0, z1] t (0, 0))) (x : Value) : (u.setCell ⟨C, 1, none⟩ x).heap[C]? = some (.cells #[z0, x] t (0, 0)) := by
  have h1 := heap_setCell_same u C 1 _ t x h
  rw [h1]; rfl
theorem RD.bad {M b : Nat} {l : List UInt8} {bad : Bool} {w : World} (h : RD M b l bad w) : RD M b l true (w.setCell ⟨b, 1, none⟩ (.bool true)) ∧ Keep b w (w.setCell ⟨b, 1, none⟩ (.bool true)) := by
  obtain ⟨hb, hM, a, cap, h1, h2, h3, h4⟩ := h
  have k := (Keep.refl b w).setCell ⟨b, 1, none⟩ rfl (.bool true)
  exact ⟨⟨hb, Nat.le_trans hM k.size, a, cap, two_at1 h1 _, h2, h3, h4.keep hM k⟩, k⟩
theorem RD.off {M b : Nat} {l : List UInt8} {bad : Bool} {w w' : World} (h : RD M b l bad w) (hw : ∀ k, k < M → w'.heap[k]? = w.heap[k]?) (hs : M ≤ w'.heap.size) : RD M b l bad w' := by
  obtain ⟨hb, hM, a, cap, h1, h2, h3, h4⟩ := h
  refine ⟨hb, hs, a, cap, (hw b hb).trans h1, h2, h3, ?_⟩
  rcases h4 with h4 | ⟨g, o, ha, hg, hgM, h4⟩
  · exact Or.inl h4
  · exact Or.inr ⟨g, o, ha, hg, hgM, fun i c hc => (World.cell?_of_block (a := ⟨g, o + i, none⟩) (hw g hgM)).trans (h4 i c hc)⟩
theorem RD.below {M b : Nat} {l : List UInt8} {bad : Bool} {w w' : World} (h : RD M b l bad w) (hw : Below M w w') : RD M b l bad w' := h.off (fun k hk => hw.block k hk) (Nat.le_trans h.2.1 hw.size)
theorem RD.len {M b : Nat} {l : List UInt8} {bad : Bool} {w : World} (h : RD M b l bad w) : l.length ≤ maxLen := by
  obtain ⟨_, _, a, cap, _, h2, h3, _⟩ := h
  omega
/-- What is left behind so many bytes. -/
theorem RD.drop {M b g o cap k : Nat} {l : List UInt8} {bad : Bool} {w : World} (hb : b < M) (hM : M ≤ w.heap.size) (h1 : w.heap[b]? = some (.cells #[.slice (some ⟨g, o, none⟩) l.length cap, .bool bad] 73 (0, 0))) (h3 : cap ≤ maxLen) (h2 : l.length ≤ cap) (h4 : ByG M b w (some ⟨g, o, none⟩) cap l) (hk : k ≤ l.length) (bb : Bool) {a' : Option Addr} (o' : Nat) (ha : a' = some ⟨g, o', none⟩) (ho : k < cap → o' = o + k) {n' c' : Nat} (hn : n' = l.length - k) (hc : c' = cap - k) :
    RD M b (l.drop k) bb ((w.setCell ⟨b, 1, none⟩ (.bool bb)).setCell ⟨b, 0, none⟩ (.slice a' n' c')) ∧ Keep b w ((w.setCell ⟨b, 1, none⟩ (.bool bb)).setCell ⟨b, 0, none⟩ (.slice a' n' c')) := by
  have k1 := ((Keep.refl b w).setCell ⟨b, 1, none⟩ rfl (.bool bb)).setCell ⟨b, 0, none⟩ rfl (.slice a' n' c')
  refine ⟨⟨hb, Nat.le_trans hM k1.size, a', c', ?_, by rw [List.length_drop]; omega, by omega, ?_⟩, k1⟩
  · rw [two_at0 (two_at1 h1 _), List.length_drop, hn]
  · rcases h4.keep hM k1 with ⟨h, _⟩ | ⟨g', o2, e1, e2, e3, e4⟩
    · simp at h
    · simp at e1
      obtain ⟨rfl, rfl⟩ := e1
      refine Or.inr ⟨g, o', ha, e2, e3, fun i c hc => ?_⟩
      rw [List.getElem?_drop] at hc
      have := (List.getElem?_eq_some_iff.1 hc).1
      rw [ho (by omega), Nat.add_assoc]
      exact e4 (k + i) c hc
def ToldN (M b : Nat) (r : Int × List UInt8 × Bool) (w : World) (e : Ending) (w' : World) : Prop := e = .returned (.int .i64 r.1) ∧ RD M b r.2.1 r.2.2 w' ∧ Keep b w w'

set_option maxRecDepth 100000 in
set_option maxHeartbeats 6400000 in
theorem rnumber_any (M b : Nat) (l : List UInt8) (bad : Bool) (w : World) (h : RD M b l bad w) : Calls Tryz.prog 91 #[.pointer (some ⟨b, 0, none⟩)] w (ToldN M b (numR l bad) w) := by
  have HRD := hidd h
  obtain ⟨hbM, hMw, a, cap, h1, h2, h3, h4⟩ := h
  have HBM : Hid (b < M ∧ M ≤ w.heap.size) := ⟨hbM, hMw⟩
  clear hbM hMw
  obtain ⟨rs, hrs⟩ : ∃ r, r = numR l bad := ⟨_, rfl⟩
  rw [← hrs]
  unfold numR at hrs
  have HRS := hidd hrs
  have c0 : w.cell? ⟨b, 0, none⟩ = some (.slice a l.length cap) := (cellO h1).trans rfl
  have c1 : w.cell? ⟨b, 1, none⟩ = some (.bool bad) := (cellO h1).trans rfl
  have z0 := looseO (q := 0) h1
  have z1 := looseO (q := 1) h1
  have hcap : cap ≤ 9223372036854775807 := by unfold maxLen at h3; omega
  have H1 := hidd h1
  have H3 := hidd h3
  have H4 := hidd h4
  obtain ⟨n, hn⟩ : ∃ n, n = l.length := ⟨_, rfl⟩
  have HN := hidd hn
  rw [← hn] at c0 h2
  clear hrs h1 h3 h4 hn
  go_enter Tryz.func91, Tryz.ntmps91
  go_wp2_with fail
  go_loopw [3, 11] (fun x i wr => ∃ (acc k : Nat), x = .int .u64 acc ∧ i = .int .i64 k ∧ k ≤ n ∧ k ≤ 9 ∧ wr = w ∧ Hid (acc < 128 ^ k ∧ takeN l 0 0 = takeN (l.drop k) k acc)) (fun _ x _ => n - (intOf x).toNat)
  case atStart => refine ⟨0, 0, rfl, rfl, Nat.zero_le _, Nat.zero_le _, ?_, ?_⟩; trivial; exact ⟨by decide, rfl⟩
  case round =>
  obtain ⟨acc, k, rfl, rfl, hk, hk9, hw, HR⟩ := hrel
  have hw' := hw.symm
  clear hw
  subst hw'
  by_cases hlt : k < n
  case neg =>
    obtain rfl : k = n := by omega
    have hre := HRS.out
    rw [HR.out.2, List.drop_of_length_le (by rw [← HN.out]; exact Nat.le_refl _), takeN] at hre
    subst hre
    have HB := hidd HRD.out.bad
    clear HRS HR
    go_wp2_with fail
    go_ret
    exact ⟨rfl, HB.out.1, HB.out.2⟩
  have hkl : k < l.length := by rw [← HN.out]; exact hlt
  obtain ⟨c, hc⟩ : ∃ c, l[k]? = some c := ⟨l[k], List.getElem?_eq_getElem hkl⟩
  obtain ⟨g, o, rfl, hgb, hgs, hall⟩ : ∃ g o, a = some ⟨g, o, none⟩ ∧ g ≠ b ∧ g < M ∧ ∀ (i : Nat) (c : UInt8), l[i]? = some c → w.cell? ⟨g, o + i, none⟩ = some (.int .u8 ((c.toNat : Nat) : Int)) := by
    rcases H4.out with ⟨_, _, h⟩ | h
    · rw [h] at hkl; simp at hkl
    · exact h
  have cc := hall k c hc
  have hc256 : c.toNat < 256 := c.toNat_lt
  have HT := hidd (takeN_drop (acc := acc) hc)
  clear hall hc
  generalize c.toNat = v at cc hc256 HT
  by_cases h9 : k = 9 ∧ 1 < v
  · obtain ⟨h9, hv⟩ := h9
    subst h9
    have hv' : (1 : Int) < v := by omega
    have hre := HRS.out
    rw [HR.out.2, HT.out, if_pos ⟨rfl, hv⟩] at hre
    subst hre
    have HB := hidd HRD.out.bad
    clear HRS HR HT
    go_wp2_with fail
    go_ret
    exact ⟨rfl, HB.out.1, HB.out.2⟩
  obtain ⟨q1, q2, q3⟩ := acc_eq (acc := acc) (c := v) (k := k) hc256 hk9 (fun e => by omega) HR.out.1
  obtain ⟨acc2, hacc2⟩ : ∃ x, x = acc + (v % 128) * 128 ^ k := ⟨_, rfl⟩
  rw [← hacc2] at q1 q2 q3
  have HA2 := hidd hacc2
  have HQ3 := hidd q3
  clear hacc2 q3
  have g9 : k = 9 → decide (1 < (v : Int)) = false := fun e => by simp; omega
  by_cases hlt128 : v < 128
  case neg =>
    have hv' : ¬ (v : Int) < 128 := by omega
    have hk8 : k < 9 := by omega
    have hk8' : ((k : Int) == 9) = false := by simp; omega
    have HE : Hid (takeN l 0 0 = takeN (l.drop (k + 1)) (k + 1) acc2) := by
      unfold Hid
      rw [HR.out.2, HT.out, if_neg h9, if_neg hlt128, HA2.out]
    clear g9 h9 HT q2
    go_wp2_with fail
    go_roundw
    case rel => refine ⟨acc2, k + 1, rfl, by go_num, by omega, by omega, ?_, ?_⟩; trivial; exact ⟨HQ3.out hk8, HE.out⟩
    case measure => simp [intOf]; omega
  have hv' : (v : Int) < 128 := by omega
  have HE : Hid (takeN l 0 0 = some (acc2, l.drop (k + 1), v == 0 && decide (0 < k))) := by
    unfold Hid
    rw [HR.out.2, HT.out, if_neg h9, if_pos hlt128, HA2.out, Nat.mod_eq_of_lt hlt128]
  have hre := HRS.out
  rw [HE.out] at hre
  simp only at hre
  have hz := unz_eq q2
  generalize unz acc2 = z at hre hz
  obtain ⟨zb, hzb⟩ : ∃ x, x = (v == 0 && decide (0 < k)) := ⟨_, rfl⟩
  rw [← hzb] at hre
  have D1 : Hid (∀ (bb : Bool), k + 1 = cap → RD M b (l.drop (k + 1)) bb ((w.setCell ⟨b, 1, none⟩ (.bool bb)).setCell ⟨b, 0, none⟩ (.slice (some ⟨g, o, none⟩) 0 0)) ∧ Keep b w ((w.setCell ⟨b, 1, none⟩ (.bool bb)).setCell ⟨b, 0, none⟩ (.slice (some ⟨g, o, none⟩) 0 0))) := fun bb hcp => RD.drop HBM.out.1 HBM.out.2 H1.out H3.out (by rw [← HN.out]; exact h2) H4.out hkl bb o rfl (fun h => by omega) (by rw [← HN.out]; omega) (by omega)
  have D2 : Hid (∀ (bb : Bool), RD M b (l.drop (k + 1)) bb ((w.setCell ⟨b, 1, none⟩ (.bool bb)).setCell ⟨b, 0, none⟩ (.slice (some ⟨g, o + (k + 1), none⟩) (n - (k + 1)) (cap - (k + 1)))) ∧ Keep b w ((w.setCell ⟨b, 1, none⟩ (.bool bb)).setCell ⟨b, 0, none⟩ (.slice (some ⟨g, o + (k + 1), none⟩) (n - (k + 1)) (cap - (k + 1))))) := fun bb => RD.drop HBM.out.1 HBM.out.2 H1.out H3.out (by rw [← HN.out]; exact h2) H4.out hkl bb (o + (k + 1)) rfl (fun h => rfl) (by rw [← HN.out]) rfl
  clear HRS HE HT HR HA2 HQ3 h9 q2
  have hg9 : k = 9 ∨ ((k : Int) == 9) = false := by
    by_cases e : k = 9
    · exact Or.inl e
    · right; simp; omega
  by_cases hcp : k + 1 < cap
  · rcases hg9 with h9k | h9k
    · have g9' := g9 h9k
      have h9b : ((k : Int) == 9) = true := by rw [h9k]; rfl
      have hk0 : 0 < k := by omega
      have hk0' : decide ((0 : Int) < k) = true := by simp; omega
      clear g9 h9k
      cases bad
      · by_cases hv0 : v = 0
        · have hv0' : ((v : Int) == 0) = true := by rw [hv0]; rfl
          rw [show zb = true by rw [hzb]; simp [hv0, hk0]] at hre
          clear hv0
          subst hre
          clear hzb
          go_wp2_with fail
          go_ret
          exact ⟨rfl, D2.out true⟩
        · have hv0' : ((v : Int) == 0) = false := by simp; omega
          rw [show zb = false by rw [hzb]; simp [hv0]] at hre
          clear hv0
          subst hre
          clear hzb
          go_wp2_with fail
          go_ret
          exact ⟨rfl, D2.out false⟩
      · rw [Bool.true_or] at hre
        subst hre
        clear hzb
        go_wp2_with fail
        go_ret
        exact ⟨rfl, D2.out true⟩
    · clear g9
      cases bad
      · by_cases hv0 : v = 0
        · have hv0' : ((v : Int) == 0) = true := by rw [hv0]; rfl
          by_cases hk0 : 0 < k
          · have hk0' : decide ((0 : Int) < k) = true := by simp; omega
            rw [show zb = true by rw [hzb]; simp [hv0, hk0]] at hre
            clear hv0
            subst hre
            clear hzb
            go_wp2_with fail
            go_ret
            exact ⟨rfl, D2.out true⟩
          · have hk0' : decide (0 < k) = false := by simp; omega
            rw [show zb = false by rw [hzb]; simp [hk0]] at hre
            clear hv0 hk0
            subst hre
            clear hzb
            go_wp2_with fail
            go_ret
            exact ⟨rfl, D2.out false⟩
        · have hv0' : ((v : Int) == 0) = false := by simp; omega
          rw [show zb = false by rw [hzb]; simp [hv0]] at hre
          clear hv0
          subst hre
          clear hzb
          go_wp2_with fail
          go_ret
          exact ⟨rfl, D2.out false⟩
      · rw [Bool.true_or] at hre
        subst hre
        clear hzb
        go_wp2_with fail
        go_ret
        exact ⟨rfl, D2.out true⟩
  · have hcp2 : cap = k + 1 := by omega
    have hn2 : n = k + 1 := by omega
    have HD := hidd (fun bb => D1.out bb hcp2.symm)
    clear D1 D2 H1 HRD H3 H4 HN hcp hk h2 hcap hlt
    subst hcp2
    subst hn2
    rcases hg9 with h9k | h9k
    · have g9' := g9 h9k
      have h9b : ((k : Int) == 9) = true := by rw [h9k]; rfl
      have hk0 : 0 < k := by omega
      have hk0' : decide ((0 : Int) < k) = true := by simp; omega
      clear g9 h9k
      cases bad
      · by_cases hv0 : v = 0
        · have hv0' : ((v : Int) == 0) = true := by rw [hv0]; rfl
          rw [show zb = true by rw [hzb]; simp [hv0, hk0]] at hre
          clear hv0
          subst hre
          clear hzb
          go_wp2_with fail
          go_ret
          exact ⟨rfl, HD.out true⟩
        · have hv0' : ((v : Int) == 0) = false := by simp; omega
          rw [show zb = false by rw [hzb]; simp [hv0]] at hre
          clear hv0
          subst hre
          clear hzb
          go_wp2_with fail
          go_ret
          exact ⟨rfl, HD.out false⟩
      · rw [Bool.true_or] at hre
        subst hre
        clear hzb
        go_wp2_with fail
        go_ret
        exact ⟨rfl, HD.out true⟩
    · clear g9
      cases bad
      · by_cases hv0 : v = 0
        · have hv0' : ((v : Int) == 0) = true := by rw [hv0]; rfl
          by_cases hk0 : 0 < k
          · have hk0' : decide ((0 : Int) < k) = true := by simp; omega
            rw [show zb = true by rw [hzb]; simp [hv0, hk0]] at hre
            clear hv0
            subst hre
            clear hzb
            go_wp2_with fail
            go_ret
            exact ⟨rfl, HD.out true⟩
          · have hk0' : decide (0 < k) = false := by simp; omega
            rw [show zb = false by rw [hzb]; simp [hk0]] at hre
            clear hv0 hk0
            subst hre
            clear hzb
            go_wp2_with fail
            go_ret
            exact ⟨rfl, HD.out false⟩
        · have hv0' : ((v : Int) == 0) = false := by simp; omega
          rw [show zb = false by rw [hzb]; simp [hv0]] at hre
          clear hv0
          subst hre
          clear hzb
          go_wp2_with fail
          go_ret
          exact ⟨rfl, HD.out false⟩
      · rw [Bool.true_or] at hre
        subst hre
        clear hzb
        go_wp2_with fail
        go_ret
        exact ⟨rfl, HD.out true⟩
end Go.Proofs.YtfmanhkeclogfaaGreatDoor
