/- Chapter 9: whether a procedure uses its stack well. Chapter 9: procedures in memory; the checker. -/
import Derived.Test.YtdnbingddbakaaaDoorK08
import Derived.Test.YtdnbingddbakaaaDoorK18
import Derived.Test.YtdnbingddbakaaaDoorK19
import Derived.Test.YtdnbingddbakaaaDoorK21
import Derived.Test.YtdnbingddbakaaaDoorK22
namespace Go.Proofs.YtdnbingddbakaaaDoor
section
set_option linter.unusedVariables false
set_option linter.unusedSimpArgs false
open Go.RowKit

/-- Heights are none, or no higher than their place. -/
def HB (H : List Int) : Prop := ∀ i, -1 ≤ H.getD i (-1) ∧ H.getD i (-1) ≤ i
theorem reach_hb {H H' : List Int} {frm : Nat} {tt hh : Int} (e : reachH H frm tt hh = some H') (hb : HB H) (h0 : 0 ≤ hh) (h1 : hh ≤ frm + 1) : HB H' := by
  unfold reachH at e
  split at e
  · simp at e
  · rename_i c
    split at e
    · simp only [Option.some.injEq] at e
      subst e
      intro i
      rw [List.getD_eq_getElem?_getD, List.getElem?_set]
      by_cases ei : tt.toNat = i
      · rw [if_pos ei]
        split
        · simp; omega
        · simp
      · rw [if_neg ei, ← List.getD_eq_getElem?_getD]; exact hb i
    · split at e
      · simp only [Option.some.injEq] at e; subst e; exact hb
      · simp at e
theorem leave_hb {H H' : List Int} {last : Int} {place : Nat} {x : In} (hc : x.op = 8 → 0 ≤ x.a ∧ x.a ≤ 2000) (e : leaveH last H place x = some H') (hb : HB H) : H'.length = H.length ∧ HB H' := by
  obtain ⟨b1, b2, b3, b4⟩ := moves_le x hc
  have hp := hb place
  unfold leaveH at e
  split at e
  · simp at e
  · rename_i c0
    split at e
    · split at e
      · simp only [Option.some.injEq] at e; subst e; exact ⟨rfl, hb⟩
      · simp at e
    · split at e
      · exact ⟨reach_len e, reach_hb e hb (by omega) (by omega)⟩
      · split at e
        · cases e1 : reachH H place x.a (H.getD place (-1) - (movesI x).1 + (movesI x).2) with
          | none => rw [e1] at e; simp at e
          | some H1 =>
            rw [e1, Option.bind_some] at e
            exact ⟨(reach_len e).trans (reach_len e1), reach_hb e (reach_hb e1 hb (by omega) (by omega)) (by omega) (by omega)⟩
        · exact ⟨reach_len e, reach_hb e hb (by omega) (by omega)⟩

set_option maxRecDepth 100000 in
set_option maxHeartbeats 1600000 in
theorem usesStackWell_any (code : List In) (body : Bool) (b o cap : Nat) (w : World) (hb : b < w.heap.size) (hn1 : 1 ≤ code.length) (hn : code.length ≤ 6000)
    (hin : ∀ i x, code[i]? = some x → w.cell? ⟨b, o + i * 11, none⟩ = some (.int .i64 x.op) ∧ w.cell? ⟨b, o + i * 11 + 1, none⟩ = some (.int .i64 x.a) ∧ (x.op = 8 → 0 ≤ x.a ∧ x.a ≤ 2000)) :
    Calls Tryd.prog 64 #[.slice (some ⟨b, o, none⟩) code.length cap, .bool body] w fun r w' => r = .returned (.bool (stackOk code body)) ∧ Below w.heap.size w w' := by
  have R := hidd (Repeat_one w.heap.size (-1) code.length 1 (w.alloc (.cells #[.int .i64 (-1)] 3)) (by rw [World.cell?_alloc_mark w #[.int .i64 (-1)] 3 (0, 0) 0]; rfl) (by simp) hn1 hn)
  have HI := hidd hin
  have HA := hidd ((Below.refl w.heap.size w).alloc (Nat.le_refl _) (.cells #[.int .i64 (-1)] 3))
  generalize hl : code.length = n at *
  have HL := hidd hl
  clear hin hl
  cases body
  · go_enter Tryd.func64, Tryd.ntmps64
    go_wp2_with fail
    refine R.out.mono ?_
    rintro e w1 ⟨rfl, hr1, hb1⟩
    have HB1 := hidd (HA.out.trans (hb1.mono (by simp)))
    rw [show (w.alloc (.cells #[.int .i64 (-1)] 3)).heap.size = w.heap.size + 1 by simp] at hr1
    have zf := hr1.loose 0
    have zc := hr1.cell (i := 0) (by simp; omega)
    have H1 := hidd (hr1.set 0 0)
    clear hr1 hb1 R HA
    go_wp2_with fail
    clear zf zc
    go_loopw [17] (fun i wr => ∃ (k : Nat) (H : List Int), k ≤ n ∧ i = .int .i64 k ∧ H.length = n ∧ HB H ∧ HR (w.heap.size + 1) 3 H wr ∧ Below w.heap.size w wr ∧ w.heap.size + 1 < wr.heap.size ∧ stackOk code false = walkS 1 k (code.drop k) H) (fun i _ => n - (intOf i).toNat)
    case atStart =>
      refine ⟨0, (List.replicate n (-1)).set 0 0, by omega, rfl, by simp, ?_, H1.out, HB1.out.setCell (p := ⟨w.heap.size + 1, 0, none⟩) (by simp) _, ?_, ?_⟩
      · intro i
        rw [List.getD_eq_getElem?_getD, List.getElem?_set]
        by_cases e : 0 = i
        · rw [if_pos e]
          split <;> simp
        · rw [if_neg e, List.getElem?_replicate]
          split <;> simp <;> omega
      · have := H1.out
        unfold HR at this
        exact (Array.getElem?_eq_some_iff.1 this).1
      · rw [List.drop_zero, ← HL.out]; rfl
    case round =>
      obtain ⟨k, H, hk, rfl, hlen, hhb, hhr, hbe, hsz, hst⟩ := hrel
      have HS := hidd hst
      have HHB := hidd hhb
      have HBE := hidd hbe
      have HHR := hidd hhr
      have HLE := hidd hlen
      clear hst
      by_cases hlt : k < n
      · have hkc : k < code.length := by rw [HL.out]; exact hlt
        have hx : code[k]? = some code[k] := List.getElem?_eq_getElem hkc
        obtain ⟨i0, i1, i2⟩ := HI.out k _ hx
        have j0 := (hbe.cell (p := ⟨b, o + k * 11, none⟩) hb).trans i0
        have j1 := (hbe.cell (p := ⟨b, o + k * 11 + 1, none⟩) hb).trans i1
        have hdrop : code.drop k = code[k] :: code.drop (k + 1) := List.drop_eq_getElem_cons hkc
        have LV := leave_any (w.heap.size + 1) 3 H n k code[k] b (o + k * 11) 1 wr hhr (by omega) (by omega) (by have := hhb k; omega) j0 j1 i2
        have LHB := hidd (fun H' => leave_hb (H := H) (H' := H') (last := 1) (place := k) i2)
        rw [hlen] at LV
        have HLV := hidd LV
        have z0 := hhr.cell (i := k) (by omega)
        have HD := hidd hdrop
        clear LV i0 i1 i2 j0 j1 hdrop hx hhb hbe hhr hlen
        by_cases hm : H.getD k (-1) = -1
        · have HE : Hid (stackOk code false = false) := by
            unfold Hid
            rw [HS.out, HD.out, walkS, if_pos hm]
          rw [hm] at z0
          go_wp2_with fail
          go_ret
          exact ⟨retB HE.out.symm, HBE.out⟩
        · have HM := hidd hm
          generalize H.getD k (-1) = y at z0 hm
          have hm' : (y == -1) = false := by simpa using hm
          cases hv : leaveH 1 H k code[k] with
          | none =>
            have HE : Hid (stackOk code false = false) := by
              unfold Hid
              rw [HS.out, HD.out, walkS, if_neg HM.out, hv]
            rw [hv] at HLV
            clear hv LHB
            go_wp2_with fail
            refine HLV.out.mono ?_
            rintro e w2 ⟨rfl, q1, q2⟩
            have HB2 := hidd (HBE.out.trans (q2.toBelow (by omega) (by omega)))
            clear q1 q2
            simp only [Option.isSome_none]
            go_wp2_with fail
            go_ret
            exact ⟨retB HE.out.symm, HB2.out⟩
          | some H2 =>
            have HE : Hid (stackOk code false = walkS 1 (k + 1) (code.drop (k + 1)) H2) := by
              unfold Hid
              rw [HS.out, HD.out, walkS, if_neg HM.out, hv]
            have hh2 := LHB.out H2 hv HHB.out
            rw [hv] at HLV
            clear hv LHB
            go_wp2_with fail
            refine HLV.out.mono ?_
            rintro e w2 ⟨rfl, q1, q2⟩
            have HB2 := hidd (HBE.out.trans (q2.toBelow (by omega) (by omega)))
            have HQ := hidd (q1 H2 rfl)
            have hs2 := q2.size
            clear q1 q2
            simp only [Option.isSome_some]
            go_wp2_with fail
            go_roundw
            case rel => exact ⟨k + 1, H2, by omega, by go_num, by rw [hh2.1]; exact HLE.out, hh2.2, HQ.out, HB2.out, by omega, HE.out⟩
            case measure => simp [intOf]; omega
      · obtain rfl : k = n := by omega
        go_wp2_with fail
        go_ret
        refine ⟨retB ?_, HBE.out⟩
        rw [HS.out, List.drop_of_length_le (by rw [HL.out]; exact Nat.le_refl _)]
        rfl
  · go_enter Tryd.func64, Tryd.ntmps64
    go_wp2_with fail
    refine R.out.mono ?_
    rintro e w1 ⟨rfl, hr1, hb1⟩
    have HB1 := hidd (HA.out.trans (hb1.mono (by simp)))
    rw [show (w.alloc (.cells #[.int .i64 (-1)] 3)).heap.size = w.heap.size + 1 by simp] at hr1
    have zf := hr1.loose 0
    have zc := hr1.cell (i := 0) (by simp; omega)
    have H1 := hidd (hr1.set 0 0)
    clear hr1 hb1 R HA
    go_wp2_with fail
    clear zf zc
    go_loopw [17] (fun i wr => ∃ (k : Nat) (H : List Int), k ≤ n ∧ i = .int .i64 k ∧ H.length = n ∧ HB H ∧ HR (w.heap.size + 1) 3 H wr ∧ Below w.heap.size w wr ∧ w.heap.size + 1 < wr.heap.size ∧ stackOk code true = walkS 0 k (code.drop k) H) (fun i _ => n - (intOf i).toNat)
    case atStart =>
      refine ⟨0, (List.replicate n (-1)).set 0 0, by omega, rfl, by simp, ?_, H1.out, HB1.out.setCell (p := ⟨w.heap.size + 1, 0, none⟩) (by simp) _, ?_, ?_⟩
      · intro i
        rw [List.getD_eq_getElem?_getD, List.getElem?_set]
        by_cases e : 0 = i
        · rw [if_pos e]
          split <;> simp
        · rw [if_neg e, List.getElem?_replicate]
          split <;> simp <;> omega
      · have := H1.out
        unfold HR at this
        exact (Array.getElem?_eq_some_iff.1 this).1
      · rw [List.drop_zero, ← HL.out]; rfl
    case round =>
      obtain ⟨k, H, hk, rfl, hlen, hhb, hhr, hbe, hsz, hst⟩ := hrel
      have HS := hidd hst
      have HHB := hidd hhb
      have HBE := hidd hbe
      have HHR := hidd hhr
      have HLE := hidd hlen
      clear hst
      by_cases hlt : k < n
      · have hkc : k < code.length := by rw [HL.out]; exact hlt
        have hx : code[k]? = some code[k] := List.getElem?_eq_getElem hkc
        obtain ⟨i0, i1, i2⟩ := HI.out k _ hx
        have j0 := (hbe.cell (p := ⟨b, o + k * 11, none⟩) hb).trans i0
        have j1 := (hbe.cell (p := ⟨b, o + k * 11 + 1, none⟩) hb).trans i1
        have hdrop : code.drop k = code[k] :: code.drop (k + 1) := List.drop_eq_getElem_cons hkc
        have LV := leave_any (w.heap.size + 1) 3 H n k code[k] b (o + k * 11) 0 wr hhr (by omega) (by omega) (by have := hhb k; omega) j0 j1 i2
        have LHB := hidd (fun H' => leave_hb (H := H) (H' := H') (last := 0) (place := k) i2)
        rw [hlen] at LV
        have HLV := hidd LV
        have z0 := hhr.cell (i := k) (by omega)
        have HD := hidd hdrop
        clear LV i0 i1 i2 j0 j1 hdrop hx hhb hbe hhr hlen
        by_cases hm : H.getD k (-1) = -1
        · have HE : Hid (stackOk code true = false) := by
            unfold Hid
            rw [HS.out, HD.out, walkS, if_pos hm]
          rw [hm] at z0
          go_wp2_with fail
          go_ret
          exact ⟨retB HE.out.symm, HBE.out⟩
        · have HM := hidd hm
          generalize H.getD k (-1) = y at z0 hm
          have hm' : (y == -1) = false := by simpa using hm
          cases hv : leaveH 0 H k code[k] with
          | none =>
            have HE : Hid (stackOk code true = false) := by
              unfold Hid
              rw [HS.out, HD.out, walkS, if_neg HM.out, hv]
            rw [hv] at HLV
            clear hv LHB
            go_wp2_with fail
            refine HLV.out.mono ?_
            rintro e w2 ⟨rfl, q1, q2⟩
            have HB2 := hidd (HBE.out.trans (q2.toBelow (by omega) (by omega)))
            clear q1 q2
            simp only [Option.isSome_none]
            go_wp2_with fail
            go_ret
            exact ⟨retB HE.out.symm, HB2.out⟩
          | some H2 =>
            have HE : Hid (stackOk code true = walkS 0 (k + 1) (code.drop (k + 1)) H2) := by
              unfold Hid
              rw [HS.out, HD.out, walkS, if_neg HM.out, hv]
            have hh2 := LHB.out H2 hv HHB.out
            rw [hv] at HLV
            clear hv LHB
            go_wp2_with fail
            refine HLV.out.mono ?_
            rintro e w2 ⟨rfl, q1, q2⟩
            have HB2 := hidd (HBE.out.trans (q2.toBelow (by omega) (by omega)))
            have HQ := hidd (q1 H2 rfl)
            have hs2 := q2.size
            clear q1 q2
            simp only [Option.isSome_some]
            go_wp2_with fail
            go_roundw
            case rel => exact ⟨k + 1, H2, by omega, by go_num, by rw [hh2.1]; exact HLE.out, hh2.2, HQ.out, HB2.out, by omega, HE.out⟩
            case measure => simp [intOf]; omega
      · obtain rfl : k = n := by omega
        go_wp2_with fail
        go_ret
        refine ⟨retB ?_, HBE.out⟩
        rw [HS.out, List.drop_of_length_le (by rw [HL.out]; exact Nat.le_refl _)]
        rfl
end
section
set_option linter.unusedVariables false
set_option linter.unusedSimpArgs false
open Go.RowKit

/-- An instruction that lies in memory, and what it quotes below B. -/
structure IL (B : Nat) (w : World) (b o : Nat) (x : In) (qa : Option Addr) (qc : Nat) : Prop where
  c0 : w.cell? ⟨b, o, none⟩ = some (.int .i64 x.op)
  c1 : w.cell? ⟨b, o + 1, none⟩ = some (.int .i64 x.a)
  c2 : w.cell? ⟨b, o + 2, none⟩ = some (.int .i64 x.n)
  c3 : w.cell? ⟨b, o + 3, none⟩ = some (.string x.lib)
  c4 : w.cell? ⟨b, o + 4, none⟩ = some (.string x.own)
  c5 : w.cell? ⟨b, o + 5, none⟩ = some (.int .i64 x.quote.kind)
  c6 : w.cell? ⟨b, o + 6, none⟩ = some (.int .i64 x.quote.n)
  c7 : w.cell? ⟨b, o + 7, none⟩ = some (.string x.quote.name)
  c8 : w.cell? ⟨b, o + 8, none⟩ = some (.int .i64 x.quote.stamp)
  c9 : w.cell? ⟨b, o + 9, none⟩ = some (.int .i64 x.quote.lib)
  c10 : w.cell? ⟨b, o + 10, none⟩ = some (.slice qa x.quote.kids.length qc)
  l3 : x.lib.size ≤ maxLen
  l4 : x.own.size ≤ maxLen
  l7 : x.quote.name.size ≤ maxLen
  lq : x.quote.kids.length ≤ qc
  lk : ∃ f, Dc (fun k => k < B) w f qa x.quote.kids
theorem IL.below {B : Nat} {w w' : World} {b o : Nat} {x : In} {qa : Option Addr} {qc : Nat} (h : IL B w b o x qa qc) (hb : b < B) (hw : Below B w w') : IL B w' b o x qa qc := by
  have e : ∀ q, w'.cell? ⟨b, q, none⟩ = w.cell? ⟨b, q, none⟩ := fun q => hw.cell (p := ⟨b, q, none⟩) hb
  obtain ⟨f, hk⟩ := h.lk
  exact ⟨(e _).trans h.c0, (e _).trans h.c1, (e _).trans h.c2, (e _).trans h.c3, (e _).trans h.c4, (e _).trans h.c5, (e _).trans h.c6, (e _).trans h.c7, (e _).trans h.c8, (e _).trans h.c9, (e _).trans h.c10, h.l3, h.l4, h.l7, h.lq, f, Dc.stay (fun k hk => hw.block k hk) (fun _ h => h) f _ _ hk⟩
/-- Code that lies in memory. -/
def CL (B : Nat) (w : World) (a : Option Addr) (code : List In) : Prop :=
  code = [] ∨ ∃ b o, a = some ⟨b, o, none⟩ ∧ b < B ∧ ∀ i x, code[i]? = some x → ∃ qa qc, IL B w b (o + i * 11) x qa qc
theorem CL.below {B : Nat} {w w' : World} {a : Option Addr} {code : List In} (h : CL B w a code) (hw : Below B w w') : CL B w' a code := by
  rcases h with h | ⟨b, o, ha, hb, h⟩
  · exact Or.inl h
  · exact Or.inr ⟨b, o, ha, hb, fun i x hx => by obtain ⟨qa, qc, hi⟩ := h i x hx; exact ⟨qa, qc, hi.below hb hw⟩⟩
/-- Procedures that lie in memory. -/
def PL (B : Nat) (w : World) (a : Option Addr) (ps : List Pro) : Prop :=
  ps = [] ∨ ∃ b o, a = some ⟨b, o, none⟩ ∧ b < B ∧ ∀ i p, ps[i]? = some p → ∃ ca cc, w.cell? ⟨b, o + i * 2, none⟩ = some (.int .i64 p.args) ∧ w.cell? ⟨b, o + i * 2 + 1, none⟩ = some (.slice ca p.code.length cc) ∧ p.code.length ≤ cc ∧ CL B w ca p.code
theorem PL.below {B : Nat} {w w' : World} {a : Option Addr} {ps : List Pro} (h : PL B w a ps) (hw : Below B w w') : PL B w' a ps := by
  rcases h with h | ⟨b, o, ha, hb, h⟩
  · exact Or.inl h
  · refine Or.inr ⟨b, o, ha, hb, fun i p hp => ?_⟩
    obtain ⟨ca, cc, h0, h1, h2, h3⟩ := h i p hp
    exact ⟨ca, cc, (hw.cell (p := ⟨b, o + i * 2, none⟩) hb).trans h0, (hw.cell (p := ⟨b, o + i * 2 + 1, none⟩) hb).trans h1, h2, h3.below hw⟩

/-- How many parameters may be around. -/
def KB (K : Kn) : Prop := ∀ (q : Nat) (s : Bool × Int), K[q]? = some (some s) → 0 ≤ s.2 ∧ s.2 ≤ (q : Int) * 2000
def ckCells (pa : Option Addr) (n pc G kc R : Nat) (gv : Value) : Array Value := #[.slice pa n pc, .slice (some ⟨G, 0, none⟩) n kc, .slice (some ⟨R, 0, none⟩) 13 13, gv]
/-- THE CHECKER AT WORK: what it knows lies in block G. -/
structure CK (B C G R : Nat) (PP : List Pro) (pa : Option Addr) (pc kc : Nat) (gv : Value) (K : Kn) (w : World) : Prop where
  c : w.heap[C]? = some (.cells (ckCells pa PP.length pc G kc R gv) 102 (0, 0))
  k : KR G K w
  r : w.heap[R]? = some (.cells (primNames.map Value.string).toArray 9 (0, 0))
  cg : C ≠ G
  rg : R ≠ G
  bc : B ≤ C
  bg : B ≤ G
  br : B ≤ R
  pl : PL B w pa PP
  len : K.length = PP.length
  kc : PP.length ≤ kc
  pc : PP.length ≤ pc
  n : PP.length ≤ 20000
  kb : KB K
  ar : ∀ P, P ∈ PP → 0 ≤ P.args ∧ P.args ≤ 2000 ∧ 1 ≤ P.code.length ∧ P.code.length ≤ 6000
theorem CK.lt {B C G R PP pa pc kc gv K w} (h : CK B C G R PP pa pc kc gv K w) : B < w.heap.size := by
  have := (Array.getElem?_eq_some_iff.1 h.c).1
  have := h.bc
  omega
theorem CK.next {B C G R PP pa pc kc gv K K' w w'} (h : CK B C G R PP pa pc kc gv K w) (hk : Keep G w w') (h2 : KR G K' w') (hl : K'.length = K.length) (hb : KB K') : CK B C G R PP pa pc kc gv K' w' := by
  have hB : Below B w w' := hk.toBelow h.bg (Nat.le_of_lt h.lt)
  refine ⟨(hk.block _ (Array.getElem?_eq_some_iff.1 h.c).1 (by simpa using h.cg)).trans h.c, h2, (hk.block _ (Array.getElem?_eq_some_iff.1 h.r).1 (by simpa using h.rg)).trans h.r, h.cg, h.rg, h.bc, h.bg, h.br, h.pl.below hB, hl.trans h.len, h.kc, h.pc, h.n, hb, h.ar⟩
theorem KR.keep {G : Nat} {K : Kn} {w w' : World} (h : KR G K w) (hb : Below w.heap.size w w') : KR G K w' := (hb.block _ (Array.getElem?_eq_some_iff.1 h).1).trans h

theorem insW_len (PP gl q len x) (K : Kn) : (insW PP gl q len x K).2.length = K.length := by
  unfold insW closeW
  repeat' split
  all_goals simp
theorem aro_of {K : Kn} {q : Nat} {s : Bool × Int} (h : K[q]? = some (some s)) : aro K q = s.2 := by
  unfold aro
  rw [List.getD_eq_getElem?_getD, h]
  rfl
theorem insW_kb {PP gl q len x} {K : Kn} {s : Bool × Int} (h : KB K) (hl : K.length = PP.length) (hq : K[q]? = some (some s)) (ha : ∀ P, P ∈ PP → 0 ≤ P.args ∧ P.args ≤ 2000 ∧ 1 ≤ P.code.length ∧ P.code.length ≤ 6000) : KB (insW PP gl q len x K).2 := by
  unfold insW
  repeat' split
  all_goals first | exact h | skip
  unfold closeW
  repeat' split
  all_goals first | exact h | skip
  rename_i h1 h2
  intro t u ht
  rw [List.getElem?_set] at ht
  by_cases e : x.a.toNat = t
  · rw [if_pos e] at ht
    have hlt : x.a.toNat < K.length := by omega
    rw [if_pos hlt] at ht
    simp only [Option.some.injEq] at ht
    subst ht
    rw [aro_of hq]
    have := h q s hq
    have hP : PP[x.a.toNat]? = some (PP[x.a.toNat]'(by omega)) := List.getElem?_eq_getElem (by omega)
    have hg : PP.getD x.a.toNat ⟨0, []⟩ = PP[x.a.toNat]'(by omega) := by rw [List.getD_eq_getElem?_getD, hP]; rfl
    rw [hg]
    have := ha _ (List.getElem_mem (l := PP) (n := x.a.toNat) (by omega))
    simp only
    omega
  · rw [if_neg e] at ht
    exact h t u ht
end
end Go.Proofs.YtdnbingddbakaaaDoor
