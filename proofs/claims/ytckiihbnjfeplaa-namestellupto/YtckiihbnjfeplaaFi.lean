/- The document's own answer: Of. -/
import Derived.Test.YtckiihbnjfeplaaFh
import Derived.Test.YtckiihbnjfeplaaXg
namespace Go.Proofs.Ytckiihbnjfeplaa
set_option linter.unusedVariables false
set_option linter.unusedSimpArgs false
open Go.RowKit

theorem dup_names (l : List ByteArray) : (l.map fun x => ((x, x) : Pr)).map (·.1) = l := by
  rw [List.map_map]
  exact List.map_id' l

set_option maxRecDepth 100000 in
set_option maxHeartbeats 6400000 in
theorem refOf_any (B : Nat) (s : St) (vs : List Value) (ex : List ByteArray) (ea : Option Addr) (ec : Nat) (w : World) (h : LiesS B w s vs) (he : Strs B w ea ex) (hB : B ≤ w.heap.size) :
    Calls Try.prog 5 #[aggOf vs, .slice ea ex.length ec] w fun e w' => Below w.heap.size w w' ∧ Brings (ofL s ex) e w' := by
  have HF : Hid (∀ w', Below w.heap.size w w' → Calls Try.prog 18 #[aggOf vs, .int .i64 1] w' fun e w'' => e = .returned (.int .i64 (form 12 s)) ∧ Below w'.heap.size w' w'') := fun w' hb => Form_any B 12 s vs w' (Nat.le_refl _) (h.old hB hb) (Nat.le_trans hB hb.size)
  have HBR : Hid (form 12 s = 0 → wex ex = 0 → ∀ w' pa pc, Below w.heap.size w w' → Prs w'.heap.size w' pa (ex.map fun x => (x, x)) → Calls Try.prog 21 #[aggOf vs, .slice pa ex.length pc] w' fun e w'' => Below w'.heap.size w' w'' ∧ Brings (br ex s) e w'' ∧ ∀ ps, br ex s = .inr ps → Fine ps) := by
    show _ → _
    intro hf hw w' pa pc hb hp
    obtain ⟨x1, x2, x3⟩ := wex_ok hw
    have hfine : ∀ f s ps, form f s = 0 → br ex s = .inr ps → Fine ps := fun f s ps h1 h2 => by
      have g := br_good hw f s ps h1 h2
      refine ⟨Nat.le_trans g.few x1, g.nodup, fun p hp => ⟨named_size (g.named p hp), ?_⟩⟩
      have := named_size (x2 p.2 (g.there p hp))
      unfold maxLen
      omega
    refine (Bring_any w'.heap.size ex hw pa pc hfine 12 s vs w' (Nat.le_refl _) hf (LiesS.stay (Old.refl _ _) (Nat.le_trans hB hb.size) s vs (h.old hB hb)) (Nat.le_refl _) hp).mono ?_
    rintro e w'' ⟨q1, q2⟩
    exact ⟨q1, q2, fun ps hps => hfine 12 s ps hf hps⟩
  have HE : Hid (Strs B w ea ex ∧ B ≤ w.heap.size) := ⟨he, hB⟩
  have hel := he.1
  obtain ⟨a0, a1, a2, c0, c1, c2, hvs, hL, hn⟩ := h.cells
  have hag : aggOf vs = .agg #[.int .i64 s.ly.kind, .string s.ly.name, .slice a0 s.ly.names.length c0, .slice a1 s.ly.asn.length c1, .string s.ly.pre, .slice a2 s.nk c2] := by rw [hvs]; rfl
  rw [hag] at HF HBR ⊢
  clear hag hvs hL hn h he hB
  generalize s.ly.kind = kd at *
  generalize s.ly.name = na at *
  generalize s.ly.names.length = nl at *
  generalize s.ly.asn.length = al at *
  generalize s.ly.pre = pr at *
  generalize s.nk = nk at *
  go_enter Try.func5, Try.ntmps5
  go_wp2_with fail
  refine (HF.out _ ((Below.refl _ _).alloc (Nat.le_refl _) _)).mono ?_
  rintro e w1 ⟨rfl, hb1⟩
  have HB1 : Hid (Below w.heap.size w w1 ∧ w1.heap[w.heap.size]? = some (.cells #[.int .i64 kd, .string na, .slice a0 nl c0, .slice a1 al c1, .string pr, .slice a2 nk c2] 25 (0, 0))) := ⟨((Below.refl _ _).alloc (Nat.le_refl _) _).trans (hb1.mono (by simp)), (hb1.block _ (by simp)).trans (heap_alloc_new w _)⟩
  clear hb1
  by_cases hf : form 12 s = 0
  · have HF0 : Hid (form 12 s = 0) := hf
    rw [hf]
    clear hf
    by_cases h200 : 200 < ex.length
    · have HO : Hid (ofL s ex = .inl 5) := by
        show ofL s ex = _
        unfold ofL
        rw [if_neg (by simp [HF0.out])]
        have : wex ex = 5 := by unfold wex; rw [if_pos h200]
        rw [this, if_pos (by decide)]
      go_wp2_with fail
      go_ret2
      exact ⟨HB1.out.1, by rw [HO.out]; exact ⟨by decide, rfl⟩⟩
    · go_wp2_with fail
      go_loopw [7, 21] (fun lv iv wr => ∃ (j : Nat) (la : Option Addr) (lc : Nat), j ≤ ex.length ∧ iv = .int .i64 j ∧ lv = .slice la j lc ∧ Hid (wexFrom [] ex = wexFrom (ex.take j) (ex.drop j)) ∧ Hid (Below w1.heap.size w1 wr ∧ RowP w1.heap.size lv ((ex.take j).map fun x => (x, x)) wr)) (fun _ iv _ => ex.length - (intOf iv).toNat)
      case atStart => exact ⟨0, none, 0, Nat.zero_le _, rfl, rfl, (rfl : wexFrom [] ex = wexFrom (ex.take 0) (ex.drop 0)), Below.refl _ _, RowP.nil _ _⟩
      case round =>
        obtain ⟨j, la, lc, hj, rfl, rfl, HW, HR⟩ := hrel
        have hjl : ((ex.take j).map fun x => ((x, x) : Pr)).length = j := by simp; omega
        obtain ⟨la2, lc2, e2, hlie⟩ := HR.out.2.lie (by omega)
        rw [hjl] at e2
        obtain ⟨rfl, rfl⟩ : la = la2 ∧ lc = lc2 := by simpa using e2
        have HLI : Hid (Prs wr.heap.size wr la ((ex.take j).map fun x => (x, x)) ∧ ((ex.take j).map fun x => ((x, x) : Pr)).length = j) := ⟨hlie, hjl⟩
        clear hlie e2 hjl
        by_cases hlt : j < ex.length
        · obtain ⟨bs, os, t, hab, hbs, ht, hct, htz⟩ := HE.out.1.at hlt
          subst hab
          have HX : Hid (ex[j]? = some t) := ht
          have cc := ((HB1.out.1.trans (HR.out.1.mono HB1.out.1.size)).cell (p := ⟨bs, os + j, none⟩) (Nat.lt_of_lt_of_le hbs HE.out.2)).trans hct
          have HD : Hid (ex.drop j = t :: ex.drop (j + 1)) := by
            obtain ⟨q1, q2⟩ := List.getElem?_eq_some_iff.1 ht
            show ex.drop j = _
            rw [List.drop_eq_getElem_cons q1, q2]
          have NMD := refNamed_any t htz wr
          clear ht hct
          go_wp2_with fail
          refine NMD.mono ?_
          clear NMD
          rintro e w2 ⟨rfl, hb2⟩
          have HR2 : Hid (Below w1.heap.size w1 w2 ∧ RowP w1.heap.size (.slice la j lc) ((ex.take j).map fun x => (x, x)) w2 ∧ Prs w2.heap.size w2 la ((ex.take j).map fun x => (x, x))) := ⟨HR.out.1.trans (hb2.mono HR.out.1.size), HR.out.2.below hb2, HLI.out.1.size_le hb2 hb2.size⟩
          clear hb2 cc
          cases hd : namedB t with
          | false =>
            have HO : Hid (ofL s ex = .inl 7) := by
              show ofL s ex = _
              unfold ofL
              rw [if_neg (by simp [HF0.out])]
              have : wex ex = 7 := by
                unfold wex
                rw [if_neg h200, HW.out, HD.out]
                unfold wexFrom
                rw [if_pos hd]
              rw [this, if_pos (by decide)]
            clear hd
            go_wp2_with fail
            go_ret2
            exact ⟨HB1.out.1.trans (HR2.out.1.mono HB1.out.1.size), by rw [HO.out]; exact ⟨by decide, rfl⟩⟩
          | true =>
            have HAS := Has_any _ _ la lc t w2 HR2.out.2.2 (Nat.le_refl _)
            rw [HLI.out.2, dup_names] at HAS
            go_wp2_with fail
            refine HAS.mono ?_
            clear HAS
            rintro e w3 ⟨rfl, hb3⟩
            have HR3 : Hid (Below w1.heap.size w1 w3 ∧ RowP w1.heap.size (.slice la j lc) ((ex.take j).map fun x => (x, x)) w3) := ⟨HR2.out.1.trans (hb3.mono HR2.out.1.size), HR2.out.2.1.below hb3⟩
            clear hb3
            cases hin : decide (t ∈ ex.take j) with
            | true =>
              have HO : Hid (ofL s ex = .inl 8) := by
                show ofL s ex = _
                unfold ofL
                rw [if_neg (by simp [HF0.out])]
                have : wex ex = 8 := by
                  unfold wex
                  rw [if_neg h200, HW.out, HD.out]
                  unfold wexFrom
                  rw [if_neg (by rw [hd]; simp), if_pos (of_decide_eq_true hin)]
                rw [this, if_pos (by decide)]
              clear hd hin
              go_wp2_with fail
              go_ret2
              exact ⟨HB1.out.1.trans (HR3.out.1.mono HB1.out.1.size), by rw [HO.out]; exact ⟨by decide, rfl⟩⟩
            | false =>
              have HW2 : Hid (wexFrom [] ex = wexFrom (ex.take (j + 1)) (ex.drop (j + 1))) := by
                show wexFrom [] ex = _
                rw [HW.out, HD.out, take_put HX.out]
                conv => lhs; unfold wexFrom
                rw [if_neg (by rw [hd]; simp), if_neg (of_decide_eq_false hin)]
              clear hd hin
              go_wp2_with (at_builtin; refine wpList_pushP t t _ rfl _ _ rfl w1.heap.size (.slice la j lc) ((ex.take j).map fun x => (x, x)) rfl HR3.out.2 rfl (by simp) HR3.out.1.size (by rw [HLI.out.2]; omega) ?_)
              intro at4 cap4 w4 hr4 hb4
              have H4 : Hid (Below w1.heap.size w1 w4 ∧ RowP w1.heap.size (.slice at4 (j + 1) cap4) ((ex.take (j + 1)).map fun x => (x, x)) w4) := ⟨HR3.out.1.trans hb4, by rw [take_put HX.out, List.map_append, List.map_take]; exact hr4⟩
              clear hr4 hb4
              go_wp2_with fail
              exact ⟨⟨j + 1, at4, cap4, by omega, by go_num, rfl, HW2.out, H4.out⟩, by simp [intOf]; omega⟩
        · obtain rfl : j = ex.length := by omega
          have HW0 : Hid (wex ex = 0) := by
            show wex ex = 0
            unfold wex
            rw [if_neg h200, HW.out, List.drop_length]
            unfold wexFrom
            rfl
          have HPP : Hid (Prs wr.heap.size wr la (ex.map fun x => (x, x))) := by
            have := HLI.out.1
            rwa [List.take_length] at this
          have hbx : wr.heap[w.heap.size]? = some (.cells #[.int .i64 kd, .string na, .slice a0 nl c0, .slice a1 al c1, .string pr, .slice a2 nk c2] 25 (0, 0)) := (HR.out.1.block _ (Array.getElem?_eq_some_iff.1 HB1.out.2).1).trans HB1.out.2
          have v0 : wr.cell? ⟨w.heap.size, 0, none⟩ = some (.int .i64 kd) := by simp only [World.cell?, hbx]; rfl
          have v1 : wr.cell? ⟨w.heap.size, 1, none⟩ = some (.string na) := by simp only [World.cell?, hbx]; rfl
          have v2 : wr.cell? ⟨w.heap.size, 2, none⟩ = some (.slice a0 nl c0) := by simp only [World.cell?, hbx]; rfl
          have v3 : wr.cell? ⟨w.heap.size, 3, none⟩ = some (.slice a1 al c1) := by simp only [World.cell?, hbx]; rfl
          have v4 : wr.cell? ⟨w.heap.size, 4, none⟩ = some (.string pr) := by simp only [World.cell?, hbx]; rfl
          have v5 : wr.cell? ⟨w.heap.size, 5, none⟩ = some (.slice a2 nk c2) := by simp only [World.cell?, hbx]; rfl
          have HBW : Hid (Below w.heap.size w wr) := HB1.out.1.trans (HR.out.1.mono HB1.out.1.size)
          have BR := HBR.out HF0.out HW0.out wr la lc HBW.out HPP.out
          clear hbx
          go_wp2_with fail
          refine BR.mono ?_
          clear BR
          rintro e w5 ⟨hb5, hbr, hfi⟩
          have HB5 : Hid (Below w.heap.size w w5) := HBW.out.trans (hb5.mono HBW.out.size)
          have HOF : Hid (ofL s ex = match br ex s with | .inl e => .inl e | .inr ps => .inr (srt (·.1) ps)) := by
            show ofL s ex = _
            unfold ofL
            rw [if_neg (by simp [HF0.out]), if_neg (by simp [HW0.out])]
            rfl
          clear hb5 v0 v1 v2 v3 v4 v5
          cases hR : br ex s with
          | inl r =>
            rw [hR] at hbr HOF
            obtain ⟨hr0, rfl⟩ := hbr
            have hr1 : (r == 0) = false := by simpa using hr0
            go_wp2_with fail
            go_ret2
            exact ⟨HB5.out, by rw [HOF.out]; exact ⟨hr0, rfl⟩⟩
          | inr ps =>
            rw [hR] at hbr HOF
            obtain ⟨ka, kc, rfl, hps⟩ := hbr
            have hlen := (hfi ps hR).len
            have SO := Sort_any w5.heap.size ps ka kc w5 hps (Nat.le_refl _) (by omega)
            clear hps hfi
            go_wp2_with fail
            refine SO.mono ?_
            clear SO
            rintro e w6 ⟨v, rfl, hb6, hr6⟩
            have HB6 : Hid (Below w.heap.size w w6) := HB5.out.trans (hb6.mono HB5.out.size)
            obtain ⟨ra, rc, rfl, hlie⟩ := hr6.lie (by rw [(srt_perm _ _).length_eq]; omega)
            have HLR : Hid (Prs w6.heap.size w6 ra (srt (·.1) ps)) := hlie
            clear hb6 hr6 hlie
            go_wp2_with fail
            go_ret2
            exact ⟨HB6.out, by rw [HOF.out]; exact ⟨ra, rc, rfl, HLR.out⟩⟩
  · have hf1 : (form 12 s == 0) = false := by simpa using hf
    have HO : Hid (ofL s ex = .inl (form 12 s) ∧ form 12 s ≠ 0) := by
      refine ⟨?_, hf⟩
      unfold ofL
      rw [if_pos hf]
    clear hf
    generalize form 12 s = ff at *
    go_wp2_with fail
    go_ret2
    exact ⟨HB1.out.1, by rw [HO.out.1]; exact ⟨HO.out.2, rfl⟩⟩
end Go.Proofs.Ytckiihbnjfeplaa
