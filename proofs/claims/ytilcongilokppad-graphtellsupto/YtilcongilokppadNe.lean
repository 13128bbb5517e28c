/- The law GraphLeast, walked. -/
import Derived.Test.YtilcongilokppadNc
namespace Go.Proofs.Ytilcongilokppad
set_option linter.unusedVariables false
set_option linter.unusedSimpArgs false
open Go.RowKit Go.Maps Go.WideMaps

theorem bytesLess_cb : ∀ a b : List UInt8, Op.bytesLess a b = decide (Lib.compareBytes a b < 0)
  | [], [] => rfl
  | [], _ :: _ => rfl
  | _ :: _, [] => rfl
  | x :: a, y :: b => by
    unfold Op.bytesLess Lib.compareBytes
    by_cases h1 : x < y
    · simp [h1]
    · by_cases h2 : y < x
      · have h3 : ¬ x = y := fun e => by subst e; exact h1 h2
        simp [h1, h2, h3]
      · have e : x = y := UInt8.le_antisymm (UInt8.not_lt.1 h2) (UInt8.not_lt.1 h1)
        subst e
        have := bytesLess_cb a b
        simp [h1, this]
theorem bytesLess_ltB (a b : ByteArray) : Op.bytesLess a.toList b.toList = ltB a b := by
  rw [ByteArray.toList_eq, ByteArray.toList_eq, bytesLess_cb]
  rfl

theorem geq_str (a b : ByteArray) (w : World) {r : Bool} (hr : ltB a b = !r) : (binOp .geq 9 (.string a) (.string b)).run Try.prog w = .ok (.bool r) w := by
  cases r <;> simp [binOp, Op.stringOp, bytesLess_ltB, hr]

/-- Block b is a map of at most n entries, from texts to truths: g. -/
def MapB (b n : Nat) (g : ByteArray → Bool) (w : World) : Prop :=
  ∃ D : DataW Unit, w.ownsMap Try.prog 9 (plainElem Try.prog 4) b n D ∧ Maps.IsMap D ∧ ∀ s : ByteArray, D.atKey (.string s.data.toList) (.lit (.bool false)) = .lit (.bool (g s))
theorem MapB.made (w : World) : MapB w.heap.size 0 (fun _ => false) (w.alloc (.map #[] 0)) :=
  ⟨.map [], World.ownsMap_made _ _ _ _, Maps.isMap_empty, fun s => rfl⟩
theorem MapB.lt {b n : Nat} {g : ByteArray → Bool} {w : World} (h : MapB b n g w) : b < w.heap.size := by
  obtain ⟨D, h, _⟩ := h
  exact h.lt
theorem MapB.kept {b n : Nat} {g : ByteArray → Bool} {w w' : World} (h : MapB b n g w) (hw : w'.heap[b]? = w.heap[b]?) : MapB b n g w' := by
  obtain ⟨D, ⟨es, clock, hb, F, hs, hD⟩, h2, h3⟩ := h
  exact ⟨D, ⟨es, clock, hw.trans hb, F, hs, hD⟩, h2, h3⟩
theorem MapB.congr {b n : Nat} {g g' : ByteArray → Bool} {w : World} (h : MapB b n g w) (e : ∀ s, g' s = g s) : MapB b n g' w := by
  obtain rfl : g' = g := funext e
  exact h
theorem zeroB (w : World) : (zeroValue 4).run Try.prog w = .ok (.bool false) w := by kernel_rfl
theorem bool_inv {v : Value} {z : DataW Unit × List MemPlace} (h : plainElem Try.prog 4 v = some z) : ∃ x, v = .bool x ∧ z.1 = .lit (.bool x) := by
  unfold plainElem at h
  rw [Try.underlying4] at h
  cases v <;> simp at h
  subst h
  exact ⟨_, rfl, rfl⟩
theorem MapB.run {b n : Nat} {g : ByteArray → Bool} {w : World} (h : MapB b n g w) (s : ByteArray) (hs : s.size ≤ maxLen) {x : Bool} (hx : g s = x) : (Instr.lookup 34 (.map (some b)) (.string s) false).run Try.prog w = .ok (.bool x) w := by
  obtain ⟨D, ⟨es, clock, hb, F, hn, rfl⟩, h2, h3⟩ := h
  rcases Maps.fit_look false lawS Try.underlying34 (zeroB w) hb F (keyOf_string_mk Try.underlying9 hs) with ⟨hrun, _, hat⟩ | ⟨e0, y, _, _, hrun, hRv, hat, _⟩
  · have := h3 s
    rw [hat] at this
    have e : g s = false := by simpa using this.symm
    rw [hrun, ← hx, e]
    rfl
  · obtain ⟨z, hv, hz⟩ := bool_inv hRv
    have := h3 s
    rw [hat, hz] at this
    have e : z = g s := by simpa using this
    rw [hrun, hv, e, hx]
    rfl
theorem wpList_markB {ops : Array Oper} {rest : List Oper} {o : Oper} {a : Act} {Q : Exit → Act → World → Prop} {w : World} {b n : Nat} {g : ByteArray → Bool} (hg : o.guard = none) (m x v : Operand) (hop : o.op = Op.mapUpdate 34 m x v) (hm : a.eval m = .map (some b)) (h : MapB b n g w) (hn : n < maxLen) (s : ByteArray) (hx : a.eval x = .string s) (hs : s.size ≤ maxLen) (c : Bool) (hv : a.eval v = .bool c)
    (hK : ∀ w', MapB b (n + 1) (fun t => if t = s then c else g t) w' → w.grownBy w' (some b) → wpList Try.prog ops Q rest (a.put o.dst undef) w') : wpList Try.prog ops Q (o :: rest) a w := by
  obtain ⟨D, h1, h2, h3⟩ := h
  have hkey := keyOf_string_mk (P := Try.prog) Try.underlying9 hs
  refine wpList_mapUpdate_own w hg m x v 34 hop 9 4 lawS Try.underlying34 _ b n D hm h1 hn _ _ _ hx hv hkey _ [] (plainElem_bool Try.underlying4 c) ?_
  intro w' hown hgr
  refine hK w' ⟨_, hown, h2.put _ _, fun t => ?_⟩ hgr
  have hkl : WideAt.IsKeyLit (.string s.data.toList) := lawS.key hkey
  by_cases e : t = s
  · subst e
    rw [atKey_put_same h2 hkl]
    simp
  · have hne : (Lit.string t.data.toList) ≠ .string s.data.toList := fun h => e (ba_eq (by simpa using h))
    rw [atKey_put_other hne, h3 t]
    simp [e]

set_option maxRecDepth 100000 in
set_option maxHeartbeats 6400000 in
theorem GraphLeast_walk (B : Nat) (l : List Nd) (a : Option Addr) (c : Nat) (w : World) (h : Nds B w a l) (hB : B ≤ w.heap.size) (hc : cost l ≤ 1048576) :
    Calls Try.prog 7 #[.slice a l.length c] w fun e w' => e = .returned (.bool true) ∧ Below w.heap.size w w' := by
  have hl := h.1
  have HH : Hid (Nds B w a l ∧ B ≤ w.heap.size ∧ cost l ≤ 1048576) := ⟨h, hB, hc⟩
  have AL := alive_any w
  have hmm := @run_makeMap Try.prog
  clear h hB hc
  go_enter Try.func7, Try.ntmps7
  go_wp2_with fail
  refine AL.mono ?_
  clear AL
  rintro e w1 ⟨rfl, hb1⟩
  have OR := Order_any B l a c w1 (HH.out.1.stay (old_of hb1 HH.out.2.1) (Nat.le_refl _)) (Nat.le_trans HH.out.2.1 hb1.size) HH.out.2.2
  have HB1 : Hid (Below w.heap.size w w1) := hb1
  clear hb1
  go_wp2_with fail
  refine OR.mono ?_
  clear OR
  rintro e w2 ⟨hb2, out, who, er, v, rfl, hr, ht, hz⟩
  have HB2 : Hid (Below w.heap.size w w2) := HB1.out.trans (hb2.mono HB1.out.size)
  rcases ht.cases3 with ⟨rfl, rfl, hd⟩ | ⟨her, rfl⟩
  · have hlen := hd.len
    have hszs : ∀ s ∈ out, s.size ≤ maxLen := fun s hs => by
      obtain ⟨nd, hn, rfl⟩ := (hd.perm s).1 hs
      have := (HH.out.1.2.1 nd hn).1
      unfold maxLen
      omega
    obtain ⟨oa, oc, rfl, hst⟩ := hr.lie (by omega) hszs
    have HD : Hid (Done l out ∧ Strs w2.heap.size w2 oa out) := ⟨hd, hst⟩
    have HL : Hid (out.length = l.length) := hlen
    rw [hlen]
    clear hr ht hst hb2 hd hz hlen hszs
    go_wp2_with fail
    go_loopw [27] (fun iv wr => ∃ (t : Nat), t ≤ l.length ∧ iv = .int .i64 t ∧ Hid (Below w2.heap.size w2 wr ∧ MapB w2.heap.size t (fun s => decide (s ∈ out.take t)) wr)) (fun iv _ => l.length - (intOf iv).toNat)
    case atStart => exact ⟨0, Nat.zero_le _, rfl, (Below.refl _ _).alloc (Nat.le_refl _) _, (MapB.made w2).congr (fun t => by simp)⟩
    case round =>
      obtain ⟨t, ht, rfl, HR⟩ := hrel
      by_cases hlt : t < l.length
      · obtain ⟨b, o, x, rfl, hbB, hx, hcx, hxz⟩ := HD.out.2.at (j := t) (by rw [HL.out]; exact hlt)
        have c1 := (HR.out.1.cell (p := ⟨b, o + t, none⟩) hbB).trans hcx
        have HX : Hid (out[t]? = some x) := hx
        have htm : t < maxLen := by unfold maxLen; omega
        clear hx hcx
        go_wp2_with fail
        obtain ⟨w4, hw4⟩ : ∃ w4, w4 = wr := ⟨_, rfl⟩
        subst hw4
        have HB4 : Hid (Below w.heap.size w w4) := HB2.out.trans (HR.out.1.mono HB2.out.size)
        go_loopw [33] (fun iv wr => ∃ (j : Nat), j ≤ l.length ∧ iv = .int .i64 j ∧ Hid (Below w4.heap.size w4 wr)) (fun iv _ => l.length - (intOf iv).toNat)
        case atStart => exact ⟨0, Nat.zero_le _, rfl, Below.refl _ _⟩
        case round =>
          obtain ⟨j, hj, rfl, HQ⟩ := hrel
          by_cases hjl : j < l.length
          · obtain ⟨b', o', nd, na, nc, rfl, hbB', hnd, hc1, hc2, hst, hz, hz2⟩ := HH.out.1.at hjl
            have hbw : b' < w.heap.size := Nat.lt_of_lt_of_le hbB' HH.out.2.1
            have HB5 : Hid (Below w.heap.size w wr) := HB4.out.trans (HQ.out.mono HB4.out.size)
            have k1 := (HB5.out.cell (p := ⟨b', o' + j * 2, none⟩) hbw).trans hc1
            have k2 := (HB5.out.cell (p := ⟨b', o' + j * 2 + 1, none⟩) hbw).trans hc2
            have HN : Hid (nd ∈ l ∧ Strs B w na nd.needs) := ⟨List.mem_of_getElem? hnd, hst⟩
            have hnm : nd.name.size ≤ maxLen := by unfold maxLen; omega
            clear hnd hc1 hc2 hst
            have HB6 : Hid (Below w4.heap.size w4 (wr.alloc (.cells #[.string nd.name, .slice na nd.needs.length nc] 32))) := HQ.out.alloc HQ.out.size _
            have HMB : Hid (MapB w2.heap.size t (fun s => decide (s ∈ out.take t)) (wr.alloc (.cells #[.string nd.name, .slice na nd.needs.length nc] 32))) := HR.out.2.kept (HB6.out.block _ HR.out.2.lt)
            cases hin : decide (nd.name ∈ out.take t) with
            | true =>
              have l1 := HMB.out.run nd.name hnm hin
              go_wp2_with fail
              exact ⟨⟨j + 1, by omega, by go_num, HB6.out⟩, by simp [intOf]; omega⟩
            | false =>
              have l1 := HMB.out.run nd.name hnm hin
              cases hbl : ltB nd.name x with
              | false =>
                have l2 := fun W => geq_str nd.name x W (r := true) (by rw [hbl]; rfl)
                go_wp2_with fail
                exact ⟨⟨j + 1, by omega, by go_num, HB6.out⟩, by simp [intOf]; omega⟩
              | true =>
                have l2 := fun W => geq_str nd.name x W (r := false) (by rw [hbl]; rfl)
                have HLE : Hid (∃ m ∈ nd.needs, m ∉ out.take t) := HD.out.1.least t x HX.out nd HN.out.1 (by simpa using hin) hbl
                have HQ1 : Hid ((wr.alloc (.cells #[.string nd.name, .slice na nd.needs.length nc] 32)).heap[wr.heap.size]? = some (.cells #[.string nd.name, .slice na nd.needs.length nc] 32 (0, 0))) := heap_alloc_new wr _
                clear hin hbl
                go_wp2_with fail
                clear l1 l2 k1 k2
                obtain ⟨w5, HW5⟩ : ∃ w5, Hid (w5 = wr.alloc (.cells #[.string nd.name, .slice na nd.needs.length nc] 32)) := ⟨_, rfl⟩
                rw [← HW5.out] at HB6 HQ1 HMB ⊢
                obtain ⟨r5, HR5⟩ : ∃ r5, Hid (r5 = wr.heap.size) := ⟨_, rfl⟩
                rw [← HR5.out] at HQ1 ⊢
                go_loopw [11, 50] (fun mv iv wq => ∃ (k : Nat) (may : Bool), k ≤ nd.needs.length ∧ iv = .int .i64 k ∧ mv = .bool may ∧ Hid (may = true → ∀ m ∈ nd.needs.take k, m ∈ out.take t) ∧ Hid (Below w5.heap.size w5 wq)) (fun _ iv _ => nd.needs.length - (intOf iv).toNat)
                case atStart => exact ⟨0, true, Nat.zero_le _, rfl, rfl, by show _ → _; simp, Below.refl _ _⟩
                case round =>
                  obtain ⟨k, may, hk, rfl, rfl, HM, HK⟩ := hrel
                  by_cases hkl : k < nd.needs.length
                  · obtain ⟨b2, o2, s, rfl, hb2, hs, hcs, hsz⟩ := HN.out.2.at hkl
                    have HB7 : Hid (Below w4.heap.size w4 wr) := HB6.out.trans (HK.out.mono HB6.out.size)
                    have c2 := ((HB4.out.trans (HB7.out.mono HB4.out.size)).cell (p := ⟨b2, o2 + k, none⟩) (Nat.lt_of_lt_of_le hb2 HH.out.2.1)).trans hcs
                    have HSX : Hid (nd.needs[k]? = some s) := hs
                    have l3 := (HMB.out.kept (HK.out.block _ HMB.out.lt)).run s hsz rfl
                    clear hs hcs
                    cases may with
                    | false =>
                      clear l3
                      go_wp2_with fail
                      go_roundw
                      case rel => exact ⟨k + 1, false, by omega, by go_num, rfl, by show _ → _; simp, HK.out⟩
                      case measure => simp [intOf]; omega
                    | true =>
                      have HM2 : Hid (decide (s ∈ out.take t) = true → ∀ m ∈ nd.needs.take (k + 1), m ∈ out.take t) := by
                        show _ → _
                        intro hq m hm
                        rw [take_put HSX.out] at hm
                        rcases List.mem_append.1 hm with q | q
                        · exact HM.out rfl m q
                        · simp at q
                          subst q
                          simpa using hq
                      generalize decide (s ∈ out.take t) = dd at l3 HM2
                      go_wp2_with fail
                      go_roundw
                      case rel => exact ⟨k + 1, dd, by omega, by go_num, rfl, HM2.out, HK.out⟩
                      case measure => simp [intOf]; omega
                  · obtain rfl : k = nd.needs.length := by omega
                    have hmay : may = false := by
                      obtain ⟨m, hm, hno⟩ := HLE.out
                      cases may with
                      | false => rfl
                      | true => exact absurd (HM.out rfl m (by rw [List.take_length]; exact hm)) hno
                    subst hmay
                    go_wp2_with fail
                    go_roundw
                    case rel => exact ⟨j + 1, by omega, by go_num, HB6.out.trans (HK.out.mono HB6.out.size)⟩
                    case measure => simp [intOf]; omega
          · have HM4 : Hid (MapB w2.heap.size t (fun s => decide (s ∈ out.take t)) wr ∧ Below w2.heap.size w2 wr) := ⟨HR.out.2.kept (HQ.out.block _ HR.out.2.lt), HR.out.1.trans (HQ.out.mono HR.out.1.size)⟩
            go_wp2_with (at_mapUpdate; refine wpList_markB rfl _ _ _ rfl rfl HM4.out.1 htm x rfl hxz true rfl ?_)
            intro w6 hm6 hg6
            have H6 : Hid (Below w2.heap.size w2 w6 ∧ MapB w2.heap.size (t + 1) (fun s => decide (s ∈ out.take (t + 1))) w6) := ⟨Below.grown HM4.out.2 hg6 HM4.out.2.size (fun k hk => by cases hk; exact Nat.le_refl _), hm6.congr (fun s => by
              rw [take_put HX.out]
              by_cases e : s = x
              · simp [e]
              · simp [e])⟩
            clear hm6 hg6
            go_wp2_with fail
            go_roundw
            case rel => exact ⟨t + 1, by omega, by go_num, H6.out⟩
            case measure => simp [intOf]; omega
      · go_wp2_with fail
        go_ret
        exact ⟨rfl, HB2.out.trans (HR.out.1.mono HB2.out.size)⟩
  · clear hr ht hb2
    rcases her with rfl | rfl | rfl
    all_goals
      go_wp2_with fail
      go_ret
      exact ⟨rfl, HB2.out⟩
end Go.Proofs.Ytilcongilokppad
