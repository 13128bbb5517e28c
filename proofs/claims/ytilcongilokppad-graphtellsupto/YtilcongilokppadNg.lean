/- The law GraphTurned, walked. -/
import Derived.Test.YtilcongilokppadNf
namespace Go.Proofs.Ytilcongilokppad
set_option linter.unusedVariables false
set_option linter.unusedSimpArgs false
open Go.RowKit Go.Maps Go.WideMaps

theorem RowS.own {B : Nat} {v : Value} {l : List ByteArray} {w : World} (h : RowS B v l w) : ∃ a cap, v = .slice a l.length cap ∧ (l = [] ∨ ∃ g, a = some ⟨g, 0, none⟩ ∧ B ≤ g ∧ g < w.heap.size ∧ ∀ (i : Nat) (s : ByteArray), l[i]? = some s → w.cell? ⟨g, i, none⟩ = some (.string s)) := by
  rcases h.2 with ⟨rfl, h0⟩ | ⟨g, cap, cur, rfl, hbg, hg, rest⟩
  · have : l = [] := List.length_eq_zero_iff.1 h0
    subst this
    exact ⟨none, 0, rfl, Or.inl rfl⟩
  · refine ⟨_, cap, rfl, Or.inr ⟨g, rfl, hbg, (Array.getElem?_eq_some_iff.1 hg).1, fun i s hi => ?_⟩⟩
    have := h.cells (g := g) rfl i (.string s) (by simp [List.getElem?_map, hi])
    rwa [add_at] at this

set_option maxRecDepth 100000 in
set_option maxHeartbeats 6400000 in
/-- same, of two rows that are the same. -/
theorem same_any (l : List ByteArray) (a b : Option Addr) (ca cb : Nat) (w : World) (ha : Strs w.heap.size w a l) (hb : Strs w.heap.size w b l) :
    Calls Try.prog 10 #[.slice a l.length ca, .slice b l.length cb] w fun e w' => e = .returned (.bool true) ∧ Below w.heap.size w w' := by
  have hl := ha.1
  have HS : Hid (Strs w.heap.size w a l ∧ Strs w.heap.size w b l) := ⟨ha, hb⟩
  clear ha hb
  go_enter Try.func10, Try.ntmps10
  go_wp2_with fail
  go_loopw [13] (fun iv wr => ∃ (j : Nat), j ≤ l.length ∧ iv = .int .i64 j ∧ Hid (Below w.heap.size w wr)) (fun iv _ => l.length - (intOf iv).toNat)
  case atStart => exact ⟨0, Nat.zero_le _, rfl, Below.refl _ _⟩
  case round =>
    obtain ⟨j, hj, rfl, HR⟩ := hrel
    by_cases hlt : j < l.length
    · obtain ⟨b1, o1, s, rfl, hb1, hs, hc1, hz⟩ := HS.out.1.at hlt
      obtain ⟨b2, o2, s', rfl, hb2, hs', hc2, _⟩ := HS.out.2.at hlt
      obtain rfl : s = s' := by simpa [hs] using hs'
      have k1 := (HR.out.cell (p := ⟨b1, o1 + j, none⟩) hb1).trans hc1
      have k2 := (HR.out.cell (p := ⟨b2, o2 + j, none⟩) hb2).trans hc2
      clear hs hs' hc1 hc2
      go_wp2_with fail
      go_quiet (fail)
      go_wp2_with fail
      go_roundw
      case rel => exact ⟨j + 1, by omega, by go_num, HR.out.trans ⟨rfl, rfl, rfl, Nat.le_refl _, fun _ _ => rfl⟩⟩
      case measure => simp [intOf]; omega
    · go_wp2_with fail
      go_ret
      exact ⟨rfl, HR.out⟩

set_option maxRecDepth 100000 in
set_option maxHeartbeats 6400000 in
theorem GraphTurned_walk (B : Nat) (l : List Nd) (a : Option Addr) (c : Nat) (w : World) (h : Nds B w a l) (hB : B ≤ w.heap.size) (hc : cost l ≤ 1048576) :
    Calls Try.prog 6 #[.slice a l.length c] w fun e w' => e = .returned (.bool true) ∧ Below w.heap.size w w' := by
  have hl := h.1
  have HH : Hid (Nds B w a l ∧ B ≤ w.heap.size ∧ cost l ≤ 1048576) := ⟨h, hB, hc⟩
  have AL := alive_any w
  obtain ⟨i0, hinf, hz0, hz1, hz2⟩ := info_parts infoStr
  clear h hB hc
  go_enter Try.func6, Try.ntmps6
  go_wp2_with fail
  refine AL.mono ?_
  clear AL
  rintro e w1 ⟨rfl, hb1⟩
  have HB1 : Hid (Below w.heap.size w w1) := hb1
  clear hb1
  go_wp2_with fail
  go_loopw [3, 4] (fun v iv wr => ∃ (r : Nat) (es : List En), r ≤ l.length ∧ iv = .int .i64 ((r : Int) - 1) ∧ Hid (es.map En.nd = ((l.drop r).map flip).reverse) ∧ Hid (Below w1.heap.size w1 wr ∧ BK w1.heap.size v es wr)) (fun _ iv _ => (intOf iv + 1).toNat)
  case atStart => exact ⟨l.length, [], Nat.le_refl _, rfl, by show _ = _; simp, Below.refl _ _, BK.nil _ _⟩
  case round =>
    obtain ⟨r, es, hr, rfl, HE, HR⟩ := hrel
    have HEL : Hid (es.length = l.length - r) := by
      show es.length = l.length - r
      have := congrArg List.length HE.out
      simpa using this
    cases r with
    | zero =>
      have HE0 : Hid (es.map En.nd = turned l) := HE.out
      have HTL : Hid ((turned l).length = l.length) := by show _ = _; simp [turned]
      have HTZ : Hid (∀ nd ∈ turned l, nd.name.size ≤ 1048576 ∧ nd.needs.length ≤ 1048576 ∧ ∀ s ∈ nd.needs, s.size ≤ 1048576) := by
        show ∀ nd ∈ turned l, _
        intro nd hn
        simp only [turned, List.mem_reverse, List.mem_map] at hn
        obtain ⟨m, hm, rfl⟩ := hn
        have := HH.out.1.2.1 m hm
        exact ⟨this.1, by simpa using this.2.1, fun s hs => this.2.2 s (by simpa using hs)⟩
      obtain ⟨ba, bc, rfl, hnds⟩ := HR.out.2.nds HE0.out (by rw [HTL.out]; exact hl) HTZ.out
      have HB5 : Hid (Below w.heap.size w wr ∧ Nds wr.heap.size wr ba (turned l)) := ⟨HB1.out.trans (HR.out.1.mono HB1.out.size), hnds⟩
      clear hnds
      have OR := Order_any B l a c wr (HH.out.1.stay (old_of HB5.out.1 HH.out.2.1) (Nat.le_refl _)) (Nat.le_trans HH.out.2.1 HB5.out.1.size) HH.out.2.2
      go_wp2_with fail
      refine OR.mono ?_
      clear OR
      rintro e w2 ⟨hb2, out, who, er, v, rfl, hr2, ht2, hz2'⟩
      have H2 : Hid (Below wr.heap.size wr w2 ∧ RowS wr.heap.size v out w2 ∧ Tells l out who er) := ⟨hb2, hr2, ht2⟩
      clear hb2 hr2 ht2
      have OR := Order_any wr.heap.size (turned l) ba bc w2 (HB5.out.2.stay (fun k hk => H2.out.1.block k hk) (Nat.le_refl _)) H2.out.1.size (by rw [cost_turned]; exact HH.out.2.2)
      go_wp2_with fail
      refine OR.mono ?_
      clear OR
      rintro e w3 ⟨hb3, out', who', er', v', rfl, hr3, ht3, hz3⟩
      obtain ⟨rfl, rfl, hwho⟩ := H2.out.2.2.same (Alike.turn l) ht3
      have hsz : out.length ≤ 1048576 ∧ ∀ s ∈ out, s.size ≤ maxLen := by
        rcases H2.out.2.2.cases3 with ⟨_, _, hd⟩ | ⟨_, rfl⟩
        · refine ⟨by rw [hd.len]; exact hl, fun s hs => ?_⟩
          obtain ⟨nd, hn, rfl⟩ := (hd.perm s).1 hs
          have := (HH.out.1.2.1 nd hn).1
          unfold maxLen
          omega
        · simp
      obtain ⟨ra, rc, rfl, hs1⟩ := (H2.out.2.1.below hb3).lie hsz.1 hsz.2
      obtain ⟨rb, rd, rfl, hs2⟩ := hr3.lie hsz.1 hsz.2
      have SA := same_any out ra rb rc rd w3 hs1 hs2
      have H3 : Hid (Below w.heap.size w w3) := (HB5.out.1.trans (H2.out.1.mono HB5.out.1.size)).trans (hb3.mono (Nat.le_trans HB5.out.1.size H2.out.1.size))
      clear hb3 hr3 ht3 hs1 hs2 hsz
      by_cases hww : who = who'
      · subst hww
        go_wp2_with fail
        refine SA.mono ?_
        clear SA
        rintro e w4 ⟨rfl, hb4⟩
        have H4 : Hid (Below w.heap.size w w4) := H3.out.trans (hb4.mono H3.out.size)
        clear hb4
        go_wp2_with fail
        all_goals
          go_ret
          exact ⟨rfl, H4.out⟩
      · have her : er = 8 := by
          rcases hwho with q | q
          · exact absurd q hww
          · exact q
        subst her
        go_wp2_with fail
        refine SA.mono ?_
        clear SA
        rintro e w4 ⟨rfl, hb4⟩
        have H4 : Hid (Below w.heap.size w w4) := H3.out.trans (hb4.mono H3.out.size)
        clear hb4
        go_wp2_with fail
        all_goals
          go_ret
          exact ⟨rfl, H4.out⟩
    | succ i =>
      have hi1 : ((i + 1 : Nat) : Int) - 1 = (i : Int) := by omega
      rw [hi1]
      obtain ⟨b, o, nd, na, nc, rfl, hbB, hnd, hc1, hc2, hst, hz, hz2'⟩ := HH.out.1.at (j := i) (by omega)
      have hbw : b < w.heap.size := Nat.lt_of_lt_of_le hbB HH.out.2.1
      have HB5 : Hid (Below w.heap.size w wr) := HB1.out.trans (HR.out.1.mono HB1.out.size)
      have k1 := (HB5.out.cell (p := ⟨b, o + i * 2, none⟩) hbw).trans hc1
      have k2 := (HB5.out.cell (p := ⟨b, o + i * 2 + 1, none⟩) hbw).trans hc2
      have HX : Hid (l[i]? = some nd ∧ Strs B w na nd.needs) := ⟨hnd, hst⟩
      have k3 : (wr.alloc (.cells #[.string nd.name, .slice none 0 0] 32)).cell? ⟨b, o + i * 2 + 1, none⟩ = some (.slice na nd.needs.length nc) := (World.cell?_of_block (a := ⟨b, o + i * 2 + 1, none⟩) (Below.heap_alloc _ _ _ (Nat.lt_of_lt_of_le hbw HB5.out.size))).trans k2
      have HC2 : Hid (w.cell? ⟨b, o + i * 2 + 1, none⟩ = some (.slice na nd.needs.length nc)) := hc2
      clear hnd hc1 hc2 hst
      go_wp2_with fail
      clear k1 k2 k3
      have HI0 : Hid (Below wr.heap.size wr (wr.alloc (.cells #[.string nd.name, .slice none 0 0] 32)) ∧ (wr.alloc (.cells #[.string nd.name, .slice none 0 0] 32)).heap[wr.heap.size]? = some (.cells #[.string nd.name, .slice none 0 0] 32 (0, 0)) ∧ wr.heap.size + 1 ≤ (wr.alloc (.cells #[.string nd.name, .slice none 0 0] 32)).heap.size) := ⟨(Below.refl _ _).alloc (Nat.le_refl _) _, heap_alloc_new wr _, by simp⟩
      obtain ⟨w5, hw5⟩ : ∃ w5, w5 = wr.alloc (.cells #[.string nd.name, .slice none 0 0] 32) := ⟨_, rfl⟩
      rw [← hw5] at HI0 ⊢
      clear hw5
      obtain ⟨H, HHH⟩ : ∃ H, Hid (H = wr.heap.size) := ⟨_, rfl⟩
      rw [← HHH.out] at HI0 ⊢
      obtain ⟨w4, hw4⟩ : ∃ w4, w4 = wr := ⟨_, rfl⟩
      subst hw4
      go_loopw [6] (fun iv wq => ∃ (q : Nat) (ns : List ByteArray) (u : Value), q ≤ nd.needs.length ∧ iv = .int .i64 ((q : Int) - 1) ∧ Hid (ns = (nd.needs.drop q).reverse) ∧ Hid (Below H w4 wq ∧ wq.heap[H]? = some (.cells #[.string nd.name, u] 32 (0, 0)) ∧ RowS (H + 1) u ns wq ∧ H + 1 ≤ wq.heap.size)) (fun iv _ => (intOf iv + 1).toNat)
      case atStart => exact ⟨nd.needs.length, [], .slice none 0 0, Nat.le_refl _, rfl, by show _ = _; simp, HI0.out.1, HI0.out.2.1, RowS.nil _ _, HI0.out.2.2⟩
      case round =>
        obtain ⟨q, ns, u, hq, rfl, HNS, HQ⟩ := hrel
        have HNL : Hid (ns.length = nd.needs.length - q) := by
          show ns.length = nd.needs.length - q
          have := congrArg List.length HNS.out
          simpa using this
        cases q with
        | zero =>
          obtain ⟨ua, uc, rfl, hown⟩ := HQ.out.2.2.1.own
          have HOW : Hid (ns = [] ∨ ∃ g, ua = some ⟨g, 0, none⟩ ∧ H + 1 ≤ g ∧ g < wr.heap.size ∧ ∀ (i : Nat) (s : ByteArray), ns[i]? = some s → wr.cell? ⟨g, i, none⟩ = some (.string s)) := hown
          have y0 : wr.cell? ⟨H, 0, none⟩ = some (.string nd.name) := by simp [World.cell?, HQ.out.2.1]
          have y1 : wr.cell? ⟨H, 1, none⟩ = some (.slice ua ns.length uc) := by simp [World.cell?, HQ.out.2.1]
          have HBK : Hid (BK w1.heap.size u3 es wr ∧ Below w1.heap.size w1 wr) := ⟨HR.out.2.below (HHH.out ▸ HQ.out.1), HR.out.1.trans ((HHH.out ▸ HQ.out.1 : Below w4.heap.size w4 wr).mono HR.out.1.size)⟩
          have HNW : Hid (ns = [] ∨ ∃ g, ua = some ⟨g, 0, none⟩ ∧ g < wr.heap.size ∧ u3.ownBlock ≠ some g ∧ ∀ (i : Nat) (s : ByteArray), ns[i]? = some s → wr.cell? ⟨g, i, none⟩ = some (.string s)) := by
            rcases HOW.out with q | ⟨g, h1, h2, h3, h4⟩
            · exact Or.inl q
            · refine Or.inr ⟨g, h1, h3, fun c => ?_, h4⟩
              have := (World.ownsRow.lt HR.out.2.row g c).2
              have := HHH.out
              omega
          clear hown
          go_wp2_with (at_builtin; refine wpList_pushN ⟨⟨nd.name, ns⟩, ua, uc⟩ _ rfl _ _ rfl w1.heap.size u3 es rfl HBK.out.1 rfl (by simp) HBK.out.2.size (by have := HEL.out; omega) HNW.out ?_)
          intro g cap w6 hb6 hg6
          have H6 : Hid (Below w1.heap.size w1 w6 ∧ BK w1.heap.size (.slice (some ⟨g, 0, none⟩) (es.length + 1) cap) (es ++ [⟨⟨nd.name, ns⟩, ua, uc⟩]) w6) := ⟨Below.grown HBK.out.2 hg6 HBK.out.2.size (fun k hk => (World.ownsRow.lt HBK.out.1.row k hk).1), hb6⟩
          have HE2 : Hid ((es ++ [(⟨⟨nd.name, ns⟩, ua, uc⟩ : En)]).map En.nd = ((l.drop i).map flip).reverse) := by
            show _ = _
            have e : ns = nd.needs.reverse := by rw [HNS.out]; simp
            rw [drop_at HX.out.1, List.map_append, HE.out, e]
            simp [flip]
          clear hb6 hg6
          go_wp2_with fail
          exact ⟨⟨i, _, by omega, rfl, HE2.out, H6.out⟩, by simp [intOf]⟩
        | succ k =>
          have hk1 : ((k + 1 : Nat) : Int) - 1 = (k : Int) := by omega
          rw [hk1]
          obtain ⟨b2, o2, s, rfl, hb2, hs, hcs, hsz⟩ := HX.out.2.at (j := k) (by omega)
          have HSX : Hid (nd.needs[k]? = some s) := hs
          have HB7 : Hid (Below w.heap.size w wr) := HB5.out.trans (HQ.out.1.mono (by have := HB5.out.size; have := HHH.out; omega))
          have e1 := (HB7.out.cell (p := ⟨b, o + i * 2 + 1, none⟩) hbw).trans HC2.out
          have e2 := (HB7.out.cell (p := ⟨b2, o2 + k, none⟩) (Nat.lt_of_lt_of_le hb2 HH.out.2.1)).trans hcs
          have e0 : wr.cell? ⟨H, 1, none⟩ = some u := by simp [World.cell?, HQ.out.2.1]
          have e0b : (wr.alloc (.cells #[.string s] 9)).cell? ⟨H, 1, none⟩ = some u := (World.cell?_of_block (a := ⟨H, 1, none⟩) (Below.heap_alloc wr _ H (by have := HQ.out.2.2.2; omega))).trans e0
          have hHB : H + 1 ≤ wr.heap.size := HQ.out.2.2.2
          have HXB : Hid (wr.heap[H]? = some (.cells #[.string nd.name, u] 32 (0, 0))) := HQ.out.2.1
          have HRW : Hid (RowS (H + 1) u ns wr) := HQ.out.2.2.1
          have hkl : k < nd.needs.length := by omega
          have hil : i < l.length := by omega
          have hnl : ns.length ≤ 1048576 := by have := HNL.out; omega
          clear hs hcs
          go_wp2_with fail
          go_region_law (first
            | (refine step_append_lies _ rfl (.tmp 40) (.tmp 49) 23 rfl (H + 1) 9 i0 _ 1 16 Try.underlying23 hinf hz0 hz1 hz2 rfl (by decide) u ns.length (ns.map Value.string) rfl (by exact World.ownsRow.alloc (w := wr.drew) HRW.out _) ⟨wr.heap.size, 0, none⟩ 1 1 [.string s] rfl rfl (by exact str_news wr.drew (.string s)) (by exact str_one s) (by decide) (by unfold maxLen; omega) (by omega) (by first | (simp; done) | (simp; omega)) (wr.heap.size + 1) (by simp) ?_; intro gA capA wA hown hgrow hat hlt3; have k0 : wA.heap[H]? = wr.heap[H]? := (hgrow.block H (by first | (simp; done) | (simp; omega)) (fun c => by have := (HRW.out.lt c.symm).1; omega)).trans (Below.heap_alloc wr.drew _ H (by show H < wr.heap.size; omega)); have k1 : wA.cell? ⟨H, 1, none⟩ = some u := (World.cell?_of_block (a := ⟨H, 1, none⟩) k0).trans e0; have k2 : wA.frozen? ⟨H, 1, none⟩ = false := (by simp [World.frozen?, k0, HXB.out]); dsimp only))
          all_goals
            have H7 : Hid (Below H w4 (wA.setCell ⟨H, 1, none⟩ (.slice (some ⟨gA, 0, none⟩) (ns.length + 1) capA)) ∧ (wA.setCell ⟨H, 1, none⟩ (.slice (some ⟨gA, 0, none⟩) (ns.length + 1) capA)).heap[H]? = some (.cells #[.string nd.name, .slice (some ⟨gA, 0, none⟩) (ns.length + 1) capA] 32 (0, 0)) ∧ RowS (H + 1) (.slice (some ⟨gA, 0, none⟩) (ns.length + 1) capA) (ns ++ [s]) (wA.setCell ⟨H, 1, none⟩ (.slice (some ⟨gA, 0, none⟩) (ns.length + 1) capA)) ∧ H + 1 ≤ (wA.setCell ⟨H, 1, none⟩ (.slice (some ⟨gA, 0, none⟩) (ns.length + 1) capA)).heap.size) := by
              have hrA : RowS (H + 1) (.slice (some ⟨gA, 0, none⟩) (ns.length + 1) capA) (ns ++ [s]) wA := by
                unfold RowS
                simpa using hown
              refine ⟨(Below.grown HQ.out.1 (grown_of hgrow) (by omega) (fun k hk => by have := (HRW.out.lt hk).1; omega)).setCell (p := ⟨H, 1, none⟩) (Nat.le_refl _) _, ?_, hrA.kept fun k hk => Below.heap_setCell _ _ _ _ (show k ≠ H by have := (hrA.lt hk).1; omega), ?_⟩
              · rw [heap_setCell (k0.trans HXB.out) (by simp)]
                rfl
              · have := (grown_of hgrow).size
                simp
                omega
            have HN7 : Hid (ns ++ [s] = (nd.needs.drop k).reverse) := by
              show _ = _
              rw [drop_at HSX.out, List.reverse_cons, ← HNS.out]
            clear hown hgrow hat hlt3 k0 k1 k2 e0 e0b e1 e2
            go_wp2_with fail
            exact ⟨⟨k, _, _, by omega, rfl, HN7.out, H7.out⟩, by simp [intOf]⟩
end Go.Proofs.Ytilcongilokppad
