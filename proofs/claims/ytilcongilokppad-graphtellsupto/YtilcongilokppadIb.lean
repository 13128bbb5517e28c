/- Package graph: order. -/
import Derived.Test.YtilcongilokppadIa
namespace Go.Proofs.Ytilcongilokppad
set_option linter.unusedVariables false
set_option linter.unusedSimpArgs false
open Go.RowKit

set_option maxRecDepth 100000 in
set_option maxHeartbeats 6400000 in
theorem order_any (B n : Nat) (Nn Uu : List (List Nat)) (two : Two n Nn Uu) (na da ua : Option Addr) (nc dc uc : Nat) (w : World) (hN : Mat B w da Nn) (hU : Mat B w ua Uu) (hB : B ≤ w.heap.size) (hn : n ≤ 1048576) :
    Calls Try.prog 16 #[.agg #[.slice na n nc, .slice da n dc, .slice ua n uc]] w fun e w' => Below w.heap.size w w' ∧ ∃ o v, e = .returned v ∧ RowI w.heap.size v o w' ∧ Greedy n (row Nn) o ∧ ∀ k, k < n → k ∉ o → ∃ m ∈ row Nn k, m ∉ o := by
  have HM : Hid (Mat B w da Nn ∧ Mat B w ua Uu ∧ B ≤ w.heap.size ∧ Two n Nn Uu) := ⟨hN, hU, hB, two⟩
  have ln := two.ln
  have lu := two.lu
  clear hN hU hB two
  have hta := assertInt
  have hmk := make_ints n hn
  go_enter Try.func16, Try.ntmps16
  go_wp2_with fail
  have H0 : Hid (OS w #[.slice na n nc, .slice da n dc, .slice ua n uc] n [] (List.replicate n 0) (.slice none 0 0) (((w.alloc (.cells #[.slice na n nc, .slice da n dc, .slice ua n uc] 40)).alloc (.cells #[.slice none 0 0] 56)).alloc (.cells (madeCells #[.int .i64 0] n) 3))) := OS.start w _ n hn
  clear hmk
  go_loopw [20] (fun i wr => ∃ (k : Nat) (h op : List Nat) (v : Value), k ≤ n ∧ i = .int .i64 k ∧ Hid (Fill n (row Nn) k h op ∧ OS w #[.slice na n nc, .slice da n dc, .slice ua n uc] n h op v wr)) (fun i _ => n - (intOf i).toNat)
  case atStart => exact ⟨0, [], _, _, Nat.zero_le _, rfl, Fill.start n _, H0.out⟩
  case round =>
    obtain ⟨k, h, op, v, hkn, rfl, HR⟩ := hrel
    by_cases hlt : k < n
    · obtain ⟨b, o, ia, ic, rfl, hbB, hc, hI⟩ := HM.out.1.at (j := k) (by omega)
      have hcr := (HR.out.2.old.cell (p := ⟨b, o + k, none⟩) (Nat.lt_of_lt_of_le hbB HM.out.2.2.1)).trans hc
      obtain ⟨m, HMm⟩ : ∃ m, Hid ((row Nn k).length = m) := ⟨_, rfl⟩
      have hm := hI.1
      rw [HMm.out] at hcr hm
      obtain ⟨x, HX⟩ : ∃ x, Hid (op.getD k 0 = x) := ⟨_, rfl⟩
      have c0 := HR.out.2.cell hlt
      rw [HX.out] at c0
      have f0 := HR.out.2.frozen k
      have H1 : Hid (OS w #[.slice na n nc, .slice (some ⟨b, o, none⟩) n dc, .slice ua n uc] n h (op.set k m) v (wr.setCell ⟨w.heap.size + 1 + 1, k, none⟩ (.int .i64 (m : Nat)))) := HR.out.2.store hlt m
      clear hc hI
      by_cases hm0 : m = 0
      · subst hm0
        have HE : Hid (row Nn k = []) := List.length_eq_zero_iff.1 HMm.out
        have PU : Hid (Calls Try.prog 24 #[.iface 53 (.pointer (some ⟨w.heap.size + 1, 0, none⟩)), .iface 3 (.int .i64 k)] (wr.setCell ⟨w.heap.size + 1 + 1, k, none⟩ (.int .i64 0)) fun e w' => e = .returned (.tuple #[]) ∧ ∃ h' v', h'.Perm (h ++ [k]) ∧ Heap h' h'.length ∧ Hp (w.heap.size + 1) h' v' w' ∧ Tch (w.heap.size + 1) v (wr.setCell ⟨w.heap.size + 1 + 1, k, none⟩ (.int .i64 0)) w' ∧ Lies (wr.setCell ⟨w.heap.size + 1 + 1, k, none⟩ (.int .i64 0)) v v') :=
          heapPush_any _ k h v _ H1.out.hp HR.out.1.hp (by have := HR.out.1.small; omega)
        go_wp2_with fail
        refine PU.out.mono ?_
        rintro e w1 ⟨rfl, h', v', hp, hh, hH, hT, hL⟩
        have H2 : Hid (Fill n (row Nn) (k + 1) h' (op.set k 0) ∧ OS w #[.slice na n nc, .slice (some ⟨b, o, none⟩) n dc, .slice ua n uc] n h' (op.set k 0) v' w1) := by
          have := HR.out.1.yes hlt HE.out hh hp
          rw [HE.out] at this
          exact ⟨this, H1.out.heap hH hT hL⟩
        clear hp hh hH hT hL PU
        go_wp2_with fail
        go_roundw
        case rel => exact ⟨k + 1, _, _, _, by omega, by go_num, H2.out.1, H2.out.2⟩
        case measure => simp [intOf]; omega
      · have HE : Hid (row Nn k ≠ []) := fun e => hm0 (by rw [← HMm.out, e]; rfl)
        have hmi : ¬ (m : Int) = 0 := by omega
        have H2 : Hid (Fill n (row Nn) (k + 1) h (op.set k m)) := by
          have := HR.out.1.no hlt HE.out
          rw [HMm.out] at this
          exact this
        go_wp2_with fail
        go_roundw
        case rel => exact ⟨k + 1, _, _, _, by omega, by go_num, H2.out, H1.out⟩
        case measure => simp [intOf]; omega
    · obtain rfl : k = n := by omega
      have H1 : Hid (Kahn k (row Nn) [] h op ∧ OS w #[.slice na k nc, .slice da k dc, .slice ua k uc] k h op v wr) := ⟨HR.out.1.done, HR.out.2⟩
      clear HR
      have hn1 : k ≤ 1048576 := hn
      go_wp2_with fail
      go_loopw [7] (fun vo wr => ∃ (out h op : List Nat) (v : Value), out.length ≤ k ∧ lenV vo = out.length ∧ Hid (Kahn k (row Nn) out h op ∧ OT w #[.slice na k nc, .slice da k dc, .slice ua k uc] k h op v out vo wr)) (fun vo _ => k - lenV vo)
      case atStart => exact ⟨[], h, op, v, Nat.zero_le _, rfl, H1.out.1, OT.start H1.out.2⟩
      case round =>
        obtain ⟨out, h2, op2, v2, hol, hlv, HL⟩ := hrel
        clear H1
        obtain ⟨va, vc, hv2, hvc, _⟩ := HL.out.2.os.hp.row.form
        subst hv2
        have c1 := HL.out.2.os.hp.cell
        by_cases hh : h2 = []
        · subst hh
          have HR : Hid (Below w.heap.size w wr ∧ RowI w.heap.size u7 out wr ∧ Greedy k (row Nn) out ∧ ∀ j, j < k → j ∉ out → ∃ m ∈ row Nn j, m ∉ out) := ⟨HL.out.2.os.old, HL.out.2.out.mono (by omega), HL.out.1.gr, HL.out.1.stuck⟩
          simp only [List.length_nil] at c1
          go_wp2_with fail
          refine (Len_any _ _ _ _).mono ?_
          rintro e w2 ⟨rfl, rfl⟩
          go_wp2_with fail
          go_ret
          exact ⟨HR.out.1, out, _, rfl, HR.out.2.1, HR.out.2.2.1, HR.out.2.2.2⟩
        · obtain ⟨hn', hlen⟩ : ∃ q, h2.length = q + 1 := ⟨h2.length - 1, by have := List.length_pos_iff.2 hh; omega⟩
          have hsm := HL.out.1.small
          have PO : Hid (Calls Try.prog 26 #[.iface 53 (.pointer (some ⟨w.heap.size + 1, 0, none⟩))] wr fun e w' => ∃ (x : Nat) (h' : List Nat) (v' : Value), e = .returned (.iface 3 (.int .i64 x)) ∧ h2.Perm (x :: h') ∧ (∀ y ∈ h2, x ≤ y) ∧ Heap h' h'.length ∧ Hp (w.heap.size + 1) h' v' w' ∧ Tch (w.heap.size + 1) (.slice va h2.length vc) wr w' ∧ Lies wr (.slice va h2.length vc) v') :=
            heapPop_any _ hn' h2 _ wr HL.out.2.os.hp HL.out.1.hp hlen (by omega)
          have hlen1 : ¬ (h2.length : Int) ≤ 0 := by omega
          clear hlen hsm
          go_wp2_with fail
          refine (Len_any _ _ _ _).mono ?_
          rintro e w2 ⟨rfl, rfl⟩
          go_wp2_with fail
          refine PO.out.mono ?_
          rintro e w3 ⟨x, h3, v3, rfl, hp3, hx3, hh3, hH3, hT3, hL3⟩
          have H3 : Hid (Told k (row Nn) (row Uu) out x 0 h3 op2 ∧ OT w #[.slice na k nc, .slice da k dc, .slice ua k uc] k h3 op2 v3 out u7 w3) := ⟨HL.out.1.take hx3 hp3 hh3, HL.out.2.heap hH3 hT3 hL3⟩
          clear hp3 hx3 hh3 hH3 hT3 hL3 PO c1
          go_wp2_with (at_builtin; refine wpList_pushI x _ rfl _ _ rfl (w.heap.size + 1 + 1 + 1) u7 out rfl H3.out.2.out rfl (by simp) (by have := H3.out.2.os.size; omega) (by omega) ?_)
          intro g cap w4 hr4 hg4 ha4
          have hxk := H3.out.1.xn
          obtain ⟨b, o, ia, ic, rfl, hbB, hc, hI⟩ := HM.out.2.1.at (j := x) (by omega)
          have H4 : Hid (OT w #[.slice na k nc, .slice da k dc, .slice (some ⟨b, o, none⟩) k uc] k h3 op2 v3 (out ++ [x]) (.slice (some ⟨g, 0, none⟩) (out.length + 1) cap) w4) := H3.out.2.push hr4 hg4 (fun g' hg' => by
            simp [Value.ownBlock] at hg'
            subst hg'
            exact ha4)
          clear hr4 hg4 ha4
          have hcr := (H4.out.os.old.cell (p := ⟨b, o + x, none⟩) (Nat.lt_of_lt_of_le hbB HM.out.2.2.1)).trans hc
          have hml := hI.1
          have hbx : w4.cell? ⟨w.heap.size, 2, none⟩ = some (.slice (some ⟨b, o, none⟩) k uc) := by simp [World.cell?, H4.out.os.box]
          have HI : Hid (Ints B w ia (row Uu x)) := hI
          clear hc hI
          go_wp2_with fail
          have HT0 : Hid (Told k (row Nn) (row Uu) out x 0 h3 op2) := H3.out.1
          have hol2 : out.length + 1 ≤ k := by
            have := H3.out.1.gr.len_le
            simpa using this
          clear H3 hcr hbx
          go_loopw [61] (fun i wr => ∃ (t : Nat) (h op : List Nat) (v : Value), t ≤ (row Uu x).length ∧ i = .int .i64 t ∧ Hid (Told k (row Nn) (row Uu) out x t h op ∧ OT w #[.slice na k nc, .slice da k dc, .slice (some ⟨b, o, none⟩) k uc] k h op v (out ++ [x]) (.slice (some ⟨g, 0, none⟩) (out.length + 1) cap) wr)) (fun i _ => (row Uu x).length - (intOf i).toNat)
          case atStart => exact ⟨0, h3, op2, v3, Nat.zero_le _, rfl, HT0.out, H4.out⟩
          case round =>
            obtain ⟨t, h4, op4, v4, htl, rfl, HQ⟩ := hrel
            by_cases hlt : t < (row Uu x).length
            · obtain ⟨b2, o2, y, rfl, hb2, hy, hcy⟩ := HI.out.at hlt
              have cy := (HQ.out.2.os.old.cell (p := ⟨b2, o2 + t, none⟩) (Nat.lt_of_lt_of_le hb2 HM.out.2.2.1)).trans hcy
              obtain ⟨hyk, hpos, _, _⟩ := HQ.out.1.pos HM.out.2.2.2.web hy
              obtain ⟨d, HDD⟩ : ∃ d, Hid (op4.getD y 0 = d + 1) := ⟨op4.getD y 0 - 1, by show op4.getD y 0 = _; omega⟩
              have c0 := HQ.out.2.os.cell hyk
              rw [HDD.out] at c0
              have f0 := HQ.out.2.os.frozen y
              have hdm : d < 9223372036854775807 := by
                have h1 := HDD.out
                have h2 := HQ.out.1.cnt y hyk
                have h3 : (row Nn y).countP (fun m => decide (m ∉ out ++ [x])) ≤ (row Nn y).length := List.countP_le_length
                have h4 : (row Nn y).count x ≤ (row Nn y).length := List.count_le_length
                obtain ⟨_, _, _, _, _, _, _, hI⟩ := HM.out.1.at (j := y) (by omega)
                have h5 := hI.1
                unfold lacks at h2
                omega
              have H5 : Hid (OT w #[.slice na k nc, .slice da k dc, .slice (some ⟨b, o, none⟩) k uc] k h4 (op4.set y d) v4 (out ++ [x]) (.slice (some ⟨g, 0, none⟩) (out.length + 1) cap) (wr.setCell ⟨w.heap.size + 1 + 1, y, none⟩ (.int .i64 (d : Nat)))) := HQ.out.2.store hyk d
              have HY : Hid ((row Uu x)[t]? = some y) := hy
              clear hcy hpos hy
              by_cases hd0 : d = 0
              · subst hd0
                have PU : Hid (Calls Try.prog 24 #[.iface 53 (.pointer (some ⟨w.heap.size + 1, 0, none⟩)), .iface 3 (.int .i64 y)] (wr.setCell ⟨w.heap.size + 1 + 1, y, none⟩ (.int .i64 0)) fun e w' => e = .returned (.tuple #[]) ∧ ∃ h' v', h'.Perm (h4 ++ [y]) ∧ Heap h' h'.length ∧ Hp (w.heap.size + 1) h' v' w' ∧ Tch (w.heap.size + 1) v4 (wr.setCell ⟨w.heap.size + 1 + 1, y, none⟩ (.int .i64 0)) w' ∧ Lies (wr.setCell ⟨w.heap.size + 1 + 1, y, none⟩ (.int .i64 0)) v4 v') :=
                  heapPush_any _ y h4 v4 _ H5.out.os.hp HQ.out.1.hp (by have := HQ.out.1.small; omega)
                go_wp2_with fail
                refine PU.out.mono ?_
                rintro e w5 ⟨rfl, h', v', hp, hh, hH, hT, hL⟩
                have H6 : Hid (Told k (row Nn) (row Uu) out x (t + 1) h' (op4.set y 0) ∧ OT w #[.slice na k nc, .slice da k dc, .slice (some ⟨b, o, none⟩) k uc] k h' (op4.set y 0) v' (out ++ [x]) (.slice (some ⟨g, 0, none⟩) (out.length + 1) cap) w5) := by
                  have := HQ.out.1.yes HM.out.2.2.2.web HY.out HDD.out hh hp
                  rw [HDD.out] at this
                  exact ⟨this, H5.out.heap hH hT hL⟩
                clear hp hh hH hT hL PU
                go_wp2_with fail
                go_roundw
                case rel => exact ⟨t + 1, _, _, _, by omega, by go_num, H6.out.1, H6.out.2⟩
                case measure => simp [intOf]; omega
              · have hdi : ¬ (d : Int) = 0 := by omega
                have H6 : Hid (Told k (row Nn) (row Uu) out x (t + 1) h4 (op4.set y d)) := by
                  have := HQ.out.1.no HM.out.2.2.2.web HY.out (by rw [HDD.out]; omega)
                  rw [HDD.out] at this
                  exact this
                go_wp2_with fail
                go_roundw
                case rel => exact ⟨t + 1, _, _, _, by omega, by go_num, H6.out, H5.out⟩
                case measure => simp [intOf]; omega
            · obtain rfl : t = (row Uu x).length := by omega
              have H5 : Hid (Kahn k (row Nn) (out ++ [x]) h4 op4) := HQ.out.1.done HM.out.2.2.2.web
              go_wp2_with fail
              go_roundw
              case rel => exact ⟨out ++ [x], h4, op4, v4, by simpa using hol2, by simp [lenV], H5.out, HQ.out.2⟩
              case measure => simp [lenV] at hlv ⊢; omega
end Go.Proofs.Ytilcongilokppad
