/- Package text's Wrong. -/
import Derived.Test.YthooljlikllnpaaDoorK09
namespace Go.Proofs.YthooljlikllnpaaDoor
set_option linter.unusedVariables false
set_option linter.unusedSimpArgs false
open Go.RowKit

def fv (x : Int × Int) : Value := .agg #[.int .i64 x.1, .int .i64 x.2]

theorem wrongFrom_drop (l : List Dat) (i m : Nat) (d : Dat) (h : l[i]? = some d) (h0 : (chk 40 d m).1 = 0) : wrongFrom (l.drop i) i m = wrongFrom (l.drop (i + 1)) (i + 1) (chk 40 d m).2 := by
  obtain ⟨hi, e⟩ := List.getElem?_eq_some_iff.1 h
  rw [List.drop_eq_getElem_cons hi, e]
  show (if (chk 40 d m).1 = 0 then _ else _) = _
  rw [if_pos h0]

theorem wrongFrom_bad (l : List Dat) (i m : Nat) (d : Dat) (h : l[i]? = some d) (h0 : (chk 40 d m).1 ≠ 0) : wrongFrom (l.drop i) i m = ((chk 40 d m).1, (i : Int)) := by
  obtain ⟨hi, e⟩ := List.getElem?_eq_some_iff.1 h
  rw [List.drop_eq_getElem_cons hi, e]
  show (if (chk 40 d m).1 = 0 then _ else _) = _
  rw [if_neg h0]

/-- What the round of a loop over data knows: the answer's block is as it was made, the count stands beside it. -/
structure At (N : Nat) (w : World) (m : Nat) (wr : World) : Prop where
  below : Below N w wr
  ctr : Ctr (N + 1) m wr
  q0 : wr.cell? ⟨N, 0, none⟩ = some (.int .i64 0)
  q1 : wr.cell? ⟨N, 1, none⟩ = some (.int .i64 0)
  z0 : wr.frozen? ⟨N, 0, none⟩ = false
  z1 : wr.frozen? ⟨N, 1, none⟩ = false

theorem At.keep {N : Nat} {w : World} {m m' : Nat} {wr wr' : World} (h : At N w m wr) (k : Keep (N + 1) wr wr') (c : Ctr (N + 1) m' wr') : At N w m' wr' := by
  have hN : N < wr.heap.size := Nat.lt_of_succ_lt h.ctr.lt
  have e : ∀ q, wr'.cell? ⟨N, q, none⟩ = wr.cell? ⟨N, q, none⟩ := fun q => k.cell (p := ⟨N, q, none⟩) hN (Nat.ne_of_lt (Nat.lt_succ_self N))
  have z : ∀ q, wr'.frozen? ⟨N, q, none⟩ = wr.frozen? ⟨N, q, none⟩ := fun q => k.frozen (p := ⟨N, q, none⟩) hN (Nat.ne_of_lt (Nat.lt_succ_self N))
  exact ⟨h.below.trans (k.toBelow (Nat.le_succ N) (Nat.le_of_lt hN)), c, (e 0).trans h.q0, (e 1).trans h.q1, (z 0).trans h.z0, (z 1).trans h.z1⟩

theorem At.start (w : World) (T : TypeId) : At w.heap.size w 0 ((w.alloc (.cells #[.int .i64 0, .int .i64 0] 28)).alloc (.cells #[.int .i64 0] T)) := by
  have hs : (w.alloc (.cells #[.int .i64 0, .int .i64 0] 28)).heap.size = w.heap.size + 1 := by simp
  refine ⟨((Below.refl _ _).alloc (Nat.le_refl _) _).alloc (by simp) _, ⟨by simp, ?_, ?_⟩, ?_, ?_, ?_, ?_⟩
  · exact (hs ▸ World.cell?_alloc_mark (w.alloc (.cells #[.int .i64 0, .int .i64 0] 28)) #[.int .i64 0] T (0, 0) 0)
  · go_simp
  · go_simp
  · go_simp
  · go_simp
  · go_simp

set_option maxRecDepth 100000 in
set_option maxHeartbeats 1600000 in
theorem Wrong_any (B g : Nat) (l : List Dat) (a : Option Addr) (cap : Nat) (w : World) (hl : Lies B w g a l) (hB : B ≤ w.heap.size) :
    Calls Tryd.prog 65 #[.slice a l.length cap] w fun e w' => e = .returned (fv (wrong l)) ∧ Below w.heap.size w w' := by
  have hlen := hl.len
  have HL : Hid (Lies B w g a l) := hl
  clear hl
  go_enter Tryd.func65, Tryd.ntmps65
  go_wp2_with fail
  go_loopw [9] (fun i wr => ∃ j m : Nat, j ≤ l.length ∧ m ≤ 2000 ∧ i = .int .i64 j ∧ At w.heap.size w m wr ∧ wrong l = wrongFrom (l.drop j) j m) (fun i _ => l.length - (intOf i).toNat)
  case atStart => exact ⟨0, 0, Nat.zero_le _, Nat.zero_le _, rfl, At.start w _, rfl⟩
  case round =>
    obtain ⟨j, m, hj, hm, rfl, hat, he⟩ := hrel
    have HEQ : Hid (wrong l = wrongFrom (l.drop j) j m) := he
    have q0 := hat.q0
    have q1 := hat.q1
    have z0 := hat.z0
    have z1 := hat.z1
    have lr := hat.ctr.lt
    have HAT : Hid (At w.heap.size w m wr) := hat
    clear he hat
    by_cases hlt : j < l.length
    · obtain ⟨d, hd⟩ : ∃ d, l[j]? = some d := ⟨l[j], List.getElem?_eq_getElem hlt⟩
      have hne : l ≠ [] := by intro e; rw [e] at hlt; simp at hlt
      have hLr : Lies B wr g a l := HL.out.below (HAT.out.below.mono hB)
      obtain ⟨g', b, o, hg, ha, hbB, hall⟩ := hLr.at hne
      subst ha
      obtain ⟨a', cap', k0, k1, k2, k3, k4, k5, hkn, hkk⟩ := hall j d hd
      have HK : Hid (l[j]? = some d) := hd
      have HA : Hid (Lies B wr g' a' d.kids) := hkk
      have HN : Hid (d.name.size ≤ maxLen) := hkn
      clear hd hall hkk hLr hne hg hkn
      go_wp2_with fail
      refine (datum_any B (w.heap.size + 1) (by omega) 40 (Nat.le_refl _) g' d a' cap' m _ (HA.out.below ((Below.refl _ _).alloc (by omega) _)) HN.out hm (HAT.out.ctr.alloc _)).mono ?_
      rintro e w2 ⟨rfl, hk2, hc2⟩
      have hat2 : At w.heap.size w (chk 40 d m).2 w2 := HAT.out.keep (((Keep.refl _ _).alloc _).trans hk2) hc2
      have HM : Hid ((chk 40 d m).1 = 0 → (chk 40 d m).2 ≤ 2000) := chk_le 40 d m hm
      have H1 : Hid ((chk 40 d m).1 = 0 → wrong l = wrongFrom (l.drop (j + 1)) (j + 1) (chk 40 d m).2) := fun h => HEQ.out.trans (wrongFrom_drop _ _ _ _ HK.out h)
      have H2 : Hid ((chk 40 d m).1 ≠ 0 → wrong l = ((chk 40 d m).1, (j : Int))) := fun h => HEQ.out.trans (wrongFrom_bad _ _ _ _ HK.out h)
      clear hk2 hc2 HK HA HAT HL HEQ q0 q1 z0 z1 k0 k1 k2 k3 k4 k5 lr
      generalize chk 40 d m = y at hat2 HM H1 H2 ⊢
      obtain ⟨y1, y2⟩ := y
      simp only at hat2 HM H1 H2 ⊢
      have q0 := hat2.q0
      have q1 := hat2.q1
      have z0 := hat2.z0
      have z1 := hat2.z1
      have lr := hat2.ctr.lt
      have HAT : Hid (At w.heap.size w y2 w2) := hat2
      clear hat2
      by_cases y0 : y1 = 0
      · subst y0
        go_wp2_with fail
        go_roundw
        case rel => exact ⟨j + 1, y2, by omega, HM.out rfl, by go_num, HAT.out, H1.out rfl⟩
        case measure => simp [intOf]; omega
      · have y0' : (y1 != 0) = true := by simpa using y0
        go_wp2_with fail
        refine bodyPost_ret (v := fv (y1, (j : Int))) (by simp [results, Tryd.results65, go_sem, fv, q0, q1]) rfl ⟨by rw [H2.out y0], (HAT.out.below.setCell (p := ⟨w.heap.size, 0, none⟩) (Nat.le_refl _) _).setCell (p := ⟨w.heap.size, 1, none⟩) (Nat.le_refl _) _⟩
    · obtain rfl : j = l.length := by omega
      rw [List.drop_length] at HEQ
      clear HL
      go_wp2_with fail
      refine bodyPost_ret (v := fv (0, 0)) (by simp [results, Tryd.results65, go_sem, fv, q0, q1]) rfl ⟨by rw [HEQ.out]; rfl, (HAT.out.below.setCell (p := ⟨w.heap.size, 0, none⟩) (Nat.le_refl _) _).setCell (p := ⟨w.heap.size, 1, none⟩) (Nat.le_refl _) _⟩
end Go.Proofs.YthooljlikllnpaaDoor
