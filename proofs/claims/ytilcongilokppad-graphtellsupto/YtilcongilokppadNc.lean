/- The law GraphBehind, walked. -/
import Derived.Test.YtilcongilokppadNb
namespace Go.Proofs.Ytilcongilokppad
set_option linter.unusedVariables false
set_option linter.unusedSimpArgs false
open Go.RowKit Go.Maps Go.WideMaps

/-- As MapIs; it has just n entries. -/
def MapZ (b n : Nat) (g : ByteArray → Option Nat) (w : World) : Prop :=
  ∃ D : DataW Unit, w.ownsMap Try.prog 9 (plainElem Try.prog 3) b n D ∧ Maps.IsMap D ∧ Maps.size D = n ∧
    ∀ s : ByteArray, Maps.has D (.string s.data.toList) = (g s).isSome ∧ D.atKey (.string s.data.toList) (.lit (.int .i64 0)) = .lit (.int .i64 (((g s).getD 0 : Nat) : Int))
theorem MapZ.is {b n : Nat} {g : ByteArray → Option Nat} {w : World} (h : MapZ b n g w) : MapIs b n g w := by
  obtain ⟨D, h1, h2, _, h3⟩ := h
  exact ⟨D, h1, h2, h3⟩
theorem MapZ.made (w : World) : MapZ w.heap.size 0 (fun _ => none) (w.alloc (.map #[] 0)) :=
  ⟨.map [], World.ownsMap_made _ _ _ _, Maps.isMap_empty, rfl, fun s => ⟨rfl, rfl⟩⟩
theorem MapZ.kept {b n : Nat} {g : ByteArray → Option Nat} {w w' : World} (h : MapZ b n g w) (hw : w'.heap[b]? = w.heap[b]?) : MapZ b n g w' := by
  obtain ⟨D, ⟨es, clock, hb, F, hs, hD⟩, h2, h3⟩ := h
  exact ⟨D, ⟨es, clock, hw.trans hb, F, hs, hD⟩, h2, h3⟩
theorem MapZ.congr {b n : Nat} {g g' : ByteArray → Option Nat} {w : World} (h : MapZ b n g w) (e : ∀ s, g' s = g s) : MapZ b n g' w := by
  obtain rfl : g' = g := funext e
  exact h
theorem MapZ.len {b n : Nat} {g : ByteArray → Option Nat} {w : World} (h : MapZ b n g w) (ty : TypeId) : (Builtin.len_ #[30] ty #[.map (some b)]).run Try.prog w = .ok (.int .i64 n) w := by
  obtain ⟨D, h1, _, h2, _⟩ := h
  rw [h1.len Try.underlying30, h2]
theorem MapIs.run {b n : Nat} {g : ByteArray → Option Nat} {w : World} (h : MapIs b n g w) (s : ByteArray) (hs : s.size ≤ maxLen) {i : Nat} (hi : (g s).getD 0 = i) : (Instr.lookup 30 (.map (some b)) (.string s) false).run Try.prog w = .ok (.int .i64 (i : Int)) w := by
  obtain ⟨D, h1, h2, h3⟩ := h
  obtain ⟨c, hrun, hat, _⟩ := h1.lookup_int lawS Try.underlying30 Try.underlying3 (zeroI w) (keyOf_string_mk Try.underlying9 hs)
  rw [(h3 s).2] at hat
  have hc : c = ((g s).getD 0 : Nat) := by simpa using hat.symm
  rw [hrun, hc, hi]
theorem wpList_markZ {ops : Array Oper} {rest : List Oper} {o : Oper} {a : Act} {Q : Exit → Act → World → Prop} {w : World} {b n : Nat} {g : ByteArray → Option Nat} (hg : o.guard = none) (m x v : Operand) (hop : o.op = Op.mapUpdate 30 m x v) (hm : a.eval m = .map (some b)) (h : MapZ b n g w) (hn : n < maxLen) (s : ByteArray) (hx : a.eval x = .string s) (hs : s.size ≤ maxLen) (hno : g s = none) (i : Nat) (c : Int) (hv : a.eval v = .int .i64 c) (hc : c = (i : Int)) (hi : i ≤ 9223372036854775807)
    (hK : ∀ w', MapZ b (n + 1) (fun t => if t = s then some i else g t) w' → w.grownBy w' (some b) → wpList Try.prog ops Q rest (a.put o.dst undef) w') : wpList Try.prog ops Q (o :: rest) a w := by
  obtain ⟨D, h1, h2, hz, h3⟩ := h
  subst hc
  have hkey := keyOf_string_mk (P := Try.prog) Try.underlying9 hs
  refine wpList_mapUpdate_own w hg m x v 30 hop 9 3 lawS Try.underlying30 _ b n D hm h1 hn _ _ _ hx hv hkey _ [] (plainElem_int Try.underlying3 (WalkArith.wf_i64 (by omega))) ?_
  intro w' hown hgr
  refine hK w' ⟨_, hown, h2.put _ _, ?_, fun t => ?_⟩ hgr
  · rw [Maps.size_put (h1.tidy lawS), (h3 s).1, hno, hz]
    rfl
  have hkl : WideAt.IsKeyLit (.string s.data.toList) := lawS.key hkey
  by_cases e : t = s
  · subst e
    rw [has_put_same h2 hkl, atKey_put_same h2 hkl]
    simp
  · have hne : (Lit.string t.data.toList) ≠ .string s.data.toList := fun h => e (ba_eq (by simpa using h))
    rw [has_put_other hne, atKey_put_other hne, (h3 t).1, (h3 t).2]
    simp [e]

/-- The first j have their places, from 1 on. -/
def ones (out : List ByteArray) (j : Nat) (t : ByteArray) : Option Nat := (plc (out.take j) t).map (· + 1)
theorem ones_none {out : List ByteArray} {j : Nat} {s : ByteArray} (hn : out.Nodup) (h : out[j]? = some s) : plc (out.take j) s = none := plc_none.2 fun c => by
  obtain ⟨i, hi⟩ := List.mem_iff_getElem?.1 c
  rw [List.getElem?_take] at hi
  split at hi
  · rename_i hlt
    have h1 := plc_at hn hi
    rw [plc_at hn h] at h1
    simp at h1
    omega
  · cases hi
theorem ones_step {out : List ByteArray} {j : Nat} {s : ByteArray} (hn : out.Nodup) (h : out[j]? = some s) (t : ByteArray) : ones out (j + 1) t = if t = s then some (j + 1) else ones out j t := by
  unfold ones
  rw [plc_step_new h (ones_none hn h)]
  by_cases e : t = s
  · simp [e]
  · simp [e]
theorem ones_all {out : List ByteArray} (t : ByteArray) : ones out out.length t = (plc out t).map (· + 1) := by
  unfold ones
  rw [List.take_length]
theorem Tells.cases3 {l : List Nd} {out : List ByteArray} {who : ByteArray} {e : Int} (h : Tells l out who e) : (e = 0 ∧ who = ByteArray.empty ∧ Done l out) ∨ ((e = 8 ∨ e = 6 ∨ e = 9) ∧ out = []) := by
  rcases h.done with q | ⟨_, h2⟩
  · exact Or.inl q
  · cases h with
    | fit x h => exact Or.inr ⟨Or.inl rfl, rfl⟩
    | none S i nd h1 h2 h3 h4 h5 => exact Or.inr ⟨Or.inr (Or.inl rfl), rfl⟩
    | cycle S N r who h1 h2 h3 h4 h5 h6 h7 => exact Or.inr ⟨Or.inr (Or.inr rfl), rfl⟩
    | ok S N o out h1 h2 h3 h4 h5 h6 =>
      rename_i q
      exact absurd rfl q

set_option maxRecDepth 100000 in
set_option maxHeartbeats 6400000 in
theorem GraphBehind_walk (B : Nat) (l : List Nd) (a : Option Addr) (c : Nat) (w : World) (h : Nds B w a l) (hB : B ≤ w.heap.size) (hc : cost l ≤ 1048576) :
    Calls Try.prog 4 #[.slice a l.length c] w fun e w' => e = .returned (.bool true) ∧ Below w.heap.size w w' := by
  have hl := h.1
  have HH : Hid (Nds B w a l ∧ B ≤ w.heap.size ∧ cost l ≤ 1048576) := ⟨h, hB, hc⟩
  have AL := alive_any w
  have hmm := @run_makeMap Try.prog
  clear h hB hc
  go_enter Try.func4, Try.ntmps4
  go_wp2_with fail
  refine AL.mono ?_
  clear AL
  rintro e w1 ⟨rfl, hb1⟩
  have OR := Order_any B l a c w1 (HH.out.1.stay (old_of hb1 HH.out.2.1) (Nat.le_refl _)) (Nat.le_trans HH.out.2.1 hb1.size) HH.out.2.2
  have HB1 : Hid (Below w.heap.size w w1) := hb1
  clear hb1
  go_wp2_with fail
  refine OR.mono ?_
  clear OR
  rintro e w2 ⟨hb2, out, who, er, v, rfl, hr, ht, hz⟩
  have HB2 : Hid (Below w.heap.size w w2) := HB1.out.trans (hb2.mono HB1.out.size)
  rcases ht.cases3 with ⟨rfl, rfl, hd⟩ | ⟨her, rfl⟩
  · have hlen := hd.len
    obtain ⟨oa, oc, rfl, hst⟩ := hr.lie (by omega) (fun s hs => by
      obtain ⟨nd, hn, rfl⟩ := (hd.perm s).1 hs
      have := (HH.out.1.2.1 nd hn).1
      unfold maxLen
      omega)
    have HD : Hid (Done l out ∧ Strs w2.heap.size w2 oa out) := ⟨hd, hst⟩
    have HL : Hid (out.length = l.length) := hlen
    rw [hlen]
    clear hr ht hst hb2 hd hz hlen
    go_wp2_with fail
    go_loopw [29] (fun iv wr => ∃ (j : Nat), j ≤ l.length ∧ iv = .int .i64 j ∧ Hid (Below w2.heap.size w2 wr ∧ MapZ w2.heap.size j (ones out j) wr)) (fun iv _ => l.length - (intOf iv).toNat)
    case atStart => exact ⟨0, Nat.zero_le _, rfl, (Below.refl _ _).alloc (Nat.le_refl _) _, (MapZ.made w2).congr (fun t => by simp [ones, plc_nil])⟩
    case round =>
      obtain ⟨j, hj, rfl, HR⟩ := hrel
      by_cases hlt : j < l.length
      · obtain ⟨b, o, s, rfl, hbB, hs, hcs, hsz⟩ := HD.out.2.at (j := j) (by rw [HL.out]; exact hlt)
        have c1 := (HR.out.1.cell (p := ⟨b, o + j, none⟩) hbB).trans hcs
        have HS : Hid (out[j]? = some s) := hs
        have hjm : j < maxLen := by unfold maxLen; omega
        have HNO : Hid (ones out j s = none) := by
          show ones out j s = none
          unfold ones
          rw [ones_none HD.out.1.nd HS.out]
          rfl
        clear hs hcs
        go_wp2_with (at_mapUpdate; refine wpList_markZ rfl _ _ _ rfl rfl HR.out.2 hjm s rfl hsz HNO.out (j + 1) _ rfl (by omega) (by omega) ?_)
        intro w3 hm3 hg3
        have H3 : Hid (Below w2.heap.size w2 w3 ∧ MapZ w2.heap.size (j + 1) (ones out (j + 1)) w3) := ⟨Below.grown HR.out.1 hg3 HR.out.1.size (fun k hk => by cases hk; exact Nat.le_refl _), hm3.congr (ones_step HD.out.1.nd HS.out)⟩
        clear hm3 hg3
        go_wp2_with fail
        go_roundw
        case rel => exact ⟨j + 1, by omega, by go_num, H3.out⟩
        case measure => simp [intOf]; omega
      · obtain rfl : j = l.length := by omega
        have HM : Hid (MapZ w2.heap.size l.length (fun t => (plc out t).map (· + 1)) wr) := HR.out.2.congr (fun t => by rw [← HL.out, ones_all])
        have hlm := HM.out.len 3
        go_wp2_with fail
        have HB4 : Hid (Below w.heap.size w wr) := HB2.out.trans (HR.out.1.mono HB2.out.size)
        clear HR hlm
        obtain ⟨w4, hw4⟩ : ∃ w4, w4 = wr := ⟨_, rfl⟩
        subst hw4
        go_loopw [57] (fun iv wr => ∃ (j : Nat), j ≤ l.length ∧ iv = .int .i64 j ∧ Hid (Below w4.heap.size w4 wr)) (fun iv _ => l.length - (intOf iv).toNat)
        case atStart => exact ⟨0, Nat.zero_le _, rfl, Below.refl _ _⟩
        case round =>
          obtain ⟨j, hj, rfl, HR⟩ := hrel
          by_cases hlt : j < l.length
          · obtain ⟨b, o, nd, na, nc, rfl, hbB, hnd, hc1, hc2, hst, hz, hz2⟩ := HH.out.1.at hlt
            have hbw : b < w.heap.size := Nat.lt_of_lt_of_le hbB HH.out.2.1
            have HB5 : Hid (Below w.heap.size w wr) := HB4.out.trans (HR.out.mono HB4.out.size)
            have k1 := (HB5.out.cell (p := ⟨b, o + j * 2, none⟩) hbw).trans hc1
            have k2 := (HB5.out.cell (p := ⟨b, o + j * 2 + 1, none⟩) hbw).trans hc2
            have HX : Hid (nd ∈ l ∧ Strs B w na nd.needs) := ⟨List.mem_of_getElem? hnd, hst⟩
            have hnm : nd.name.size ≤ maxLen := by unfold maxLen; omega
            clear hnd hc1 hc2 hst
            go_wp2_with fail
            have HB6 : Hid (Below w4.heap.size w4 (wr.alloc (.cells #[.string nd.name, .slice na nd.needs.length nc] 32))) := HR.out.alloc HR.out.size _
            have hq1 := heap_alloc_new wr (.cells #[.string nd.name, .slice na nd.needs.length nc] 32)
            have HQ1 : Hid ((wr.alloc (.cells #[.string nd.name, .slice na nd.needs.length nc] 32)).heap[wr.heap.size]? = some (.cells #[.string nd.name, .slice na nd.needs.length nc] 32 (0, 0))) := hq1
            clear hq1 k1 k2
            obtain ⟨w5, HW5⟩ : ∃ w5, Hid (w5 = wr.alloc (.cells #[.string nd.name, .slice na nd.needs.length nc] 32)) := ⟨_, rfl⟩
            rw [← HW5.out] at HB6 HQ1 ⊢
            obtain ⟨r5, HR5⟩ : ∃ r5, Hid (r5 = wr.heap.size) := ⟨_, rfl⟩
            rw [← HR5.out] at HQ1 ⊢
            go_loopw [64] (fun iv wq => ∃ (k : Nat), k ≤ nd.needs.length ∧ iv = .int .i64 k ∧ Hid (Below w5.heap.size w5 wq)) (fun iv _ => nd.needs.length - (intOf iv).toNat)
            case atStart => exact ⟨0, Nat.zero_le _, rfl, Below.refl _ _⟩
            case round =>
              obtain ⟨k, hk, rfl, HK⟩ := hrel
              by_cases hkl : k < nd.needs.length
              · obtain ⟨b2, o2, s, rfl, hb2, hs, hcs, hsz⟩ := HX.out.2.at hkl
                have HB7 : Hid (Below w4.heap.size w4 wr) := HB6.out.trans (HK.out.mono HB6.out.size)
                have c1 := ((HB4.out.trans (HB7.out.mono HB4.out.size)).cell (p := ⟨b2, o2 + k, none⟩) (Nat.lt_of_lt_of_le hb2 HH.out.2.1)).trans hcs
                obtain ⟨p, q, hp, hq, hpq⟩ := HD.out.1.behind nd HX.out.1 s (List.mem_of_getElem? hs)
                have hpl := HL.out ▸ (plc_some hp).1
                have hql := HL.out ▸ (plc_some hq).1
                have hmi := HM.out.is.kept (HB7.out.block _ HM.out.is.lt)
                have l1 := hmi.run s hsz (i := p + 1) (by simp [hp])
                have l2 := hmi.run nd.name hnm (i := q + 1) (by simp [hq])
                have q1 : wr.cell? ⟨r5, 0, none⟩ = some (.string nd.name) := by simp [World.cell?, HK.out.block r5 (Array.getElem?_eq_some_iff.1 HQ1.out).1, HQ1.out]
                clear hs hcs hp hq hmi
                go_wp2_with fail
                case roundEnd => exact ⟨⟨k + 1, by omega, by go_num, HK.out⟩, by simp [intOf]; omega⟩
                rename_i h1 h2
                exfalso
                rcases h2 with h2 | h2
                · simp at h2
                  omega
                · omega
              · go_wp2_with fail
                go_roundw
                case rel => exact ⟨j + 1, by omega, by go_num, HB6.out.trans (HK.out.mono HB6.out.size)⟩
                case measure => simp [intOf]; omega
          · go_wp2_with fail
            go_ret
            exact ⟨rfl, HB4.out.trans (HR.out.mono HB4.out.size)⟩
  · obtain ⟨oa, oc, rfl, hst⟩ := hr.lie (by simp) (by simp)
    clear hr ht hst hb2
    rcases her with rfl | rfl | rfl
    all_goals
      go_wp2_with fail
      go_ret
      exact ⟨rfl, HB2.out⟩
end Go.Proofs.Ytilcongilokppad
