/- Package graph: Order. -/
import Derived.Test.YtilcongilokppadMc
import Derived.Test.YtilcongilokppadIb
import Derived.Test.YtilcongilokppadKd
import Derived.Test.YtilcongilokppadGg
namespace Go.Proofs.Ytilcongilokppad
set_option linter.unusedVariables false
set_option linter.unusedSimpArgs false
open Go.RowKit Go.Maps Go.WideMaps

theorem some_ring {n : Nat} {N : Nat → List Nat} {o : List Nat} (hN : ∀ k, k < n → ∀ m ∈ N k, m < n) (hg : Greedy n N o) (hrest : ∀ k, k < n → k ∉ o → ∃ m ∈ N k, m ∉ o) (hl : o.length < n) : ∃ k, k < n ∧ Rch N k k := by
  refine Classical.byContradiction fun c => ?_
  have hall := no_ring hN (fun k hk h => c ⟨k, hk, h⟩) (fun k => k ∉ o) hrest
  have := nodup_len (List.range n) o List.nodup_range fun x hx => Classical.byContradiction (hall x (List.mem_range.1 hx))
  simp at this
  omega
theorem RowS.mono {B B' : Nat} {v : Value} {l : List ByteArray} {w : World} (h : RowS B v l w) (hB : B' ≤ B) : RowS B' v l w := by
  obtain ⟨h1, h⟩ := h
  refine ⟨h1, ?_⟩
  rcases h with h | ⟨g, cap, cur, rfl, hb, rest⟩
  · exact Or.inl h
  · exact Or.inr ⟨g, cap, cur, rfl, Nat.le_trans hB hb, rest⟩
theorem old_of {B : Nat} {w w' : World} (h : Below w.heap.size w w') (hB : B ≤ w.heap.size) : Old B w w' := fun k hk => h.block k (Nat.lt_of_lt_of_le hk hB)
theorem name_size {B : Nat} {w : World} {a : Option Addr} {l : List Nd} {S : List ByteArray} (h : Nds B w a l) (hr : Ranks l S) {i : Nat} {s : ByteArray} (hi : S[i]? = some s) : s.size ≤ 1048576 := by
  obtain ⟨nd, hn, rfl⟩ := List.mem_map.1 (hr.perm.mem_iff.1 (List.mem_of_getElem? hi))
  exact (h.2.1 nd hn).1

set_option maxRecDepth 100000 in
set_option maxHeartbeats 6400000 in
theorem Order_any (B : Nat) (l : List Nd) (a : Option Addr) (c : Nat) (w : World) (h : Nds B w a l) (hB : B ≤ w.heap.size) (hc : cost l ≤ 1048576) :
    Calls Try.prog 8 #[.slice a l.length c] w fun e w' => Below w.heap.size w w' ∧ ∃ (out : List ByteArray) (who : ByteArray) (er : Int) (v : Value), e = .returned (.tuple #[v, .string who, .int .i64 er]) ∧ RowS w.heap.size v out w' ∧ Tells l out who er ∧ who.size ≤ 1048576 := by
  have hl := h.1
  have HH : Hid (Nds B w a l ∧ B ≤ w.heap.size ∧ cost l ≤ 1048576) := ⟨h, hB, hc⟩
  have RK := ranked_any B l a c w h hB
  clear h hB hc
  go_enter Try.func8, Try.ntmps8
  go_wp2_with fail
  refine RK.mono ?_
  clear RK
  rintro e w1 ⟨hb1, ⟨x, hx, hxs, rfl⟩ | ⟨S, hS, rfl, hm⟩⟩
  · have HQ : Hid (Below w.heap.size w w1 ∧ dup [] (l.map Nd.name) = some x) := ⟨hb1, hx⟩
    clear hb1 hx
    go_wp2_with fail
    refine (Clone_any x _ hxs).mono ?_
    rintro e w2 ⟨rfl, hb2⟩
    have H2 : Hid (Below w.heap.size w w2) := HQ.out.1.trans (hb2.mono HQ.out.1.size)
    clear hb2
    go_wp2_with fail
    go_ret3
    exact ⟨H2.out, [], x, 8, .slice none 0 0, rfl, RowS.nil _ _, .fit x HQ.out.2, hxs⟩
  · have WV := woven_any B w.heap.size 2097152 l S a c w1 (HH.out.1.stay (old_of hb1 HH.out.2.1) (Nat.le_refl _)) hS hm (Nat.le_trans HH.out.2.1 hb1.size) HH.out.2.2
    have HQ : Hid (Below w.heap.size w w1 ∧ Ranks l S) := ⟨hb1, hS⟩
    clear hb1 hS hm
    go_wp2_with fail
    refine WV.mono ?_
    clear WV
    rintro e w2 ⟨hb2, ⟨nd, i, hn, hp, hL, hle, rfl⟩ | ⟨nb, bt, bf, Nn, Uu, rfl, two, hno, hN, m1, m2, hnm⟩⟩
    · have hnz := (HH.out.1.2.1 nd hn).1
      have H2 : Hid (Below w.heap.size w w2 ∧ nd ∈ l ∧ plc S nd.name = some i ∧ Lacks S nd ∧ (∀ m ∈ l, ∀ k, plc S m.name = some k → Lacks S m → i ≤ k)) := ⟨HQ.out.1.trans (hb2.mono HQ.out.1.size), hn, hp, hL, hle⟩
      clear hb2 hn hp hL hle
      go_wp2_with fail
      refine (Clone_any nd.name _ hnz).mono ?_
      rintro e w3 ⟨rfl, hb3⟩
      have H3 : Hid (Below w.heap.size w w3) := (H2.out.1.alloc H2.out.1.size _).trans (hb3.mono (by have := H2.out.1.size; simp; omega))
      clear hb3
      go_wp2_with fail
      go_ret3
      exact ⟨H3.out, [], nd.name, 6, .slice none 0 0, rfl, RowS.nil _ _, .none S i nd HQ.out.2 H2.out.2.1 H2.out.2.2.1 H2.out.2.2.2.1 H2.out.2.2.2.2, hnz⟩
    · obtain ⟨w3, HW3⟩ : ∃ w3, Hid (w3 = w2.alloc (.cells #[.slice (some ⟨nb, 0, none⟩) l.length l.length, .slice (some ⟨bt, 0, none⟩) l.length l.length, .slice (some ⟨bf, 0, none⟩) l.length l.length] 40)) := ⟨_, rfl⟩
      have hb23 : Below w2.heap.size w2 w3 := HW3.out ▸ (Below.refl _ _).alloc (Nat.le_refl _) _
      have H3 : Hid (Below w.heap.size w w3 ∧ Two l.length Nn Uu ∧ (∀ nd ∈ l, ¬ Lacks S nd) ∧ IsN l S (row Nn) ∧ Mat w3.heap.size w3 (some ⟨bt, 0, none⟩) Nn ∧ Mat w3.heap.size w3 (some ⟨bf, 0, none⟩) Uu ∧ w3.heap[nb]? = some (.cells (S.map Value.string).toArray 9 (0, 0)) ∧
          w3.heap[w2.heap.size]? = some (.cells #[.slice (some ⟨nb, 0, none⟩) l.length l.length, .slice (some ⟨bt, 0, none⟩) l.length l.length, .slice (some ⟨bf, 0, none⟩) l.length l.length] 40 (0, 0))) :=
        ⟨(HQ.out.1.trans (hb2.mono HQ.out.1.size)).trans (hb23.mono (Nat.le_trans HQ.out.1.size hb2.size)), two, hno, hN, m1.stay (fun k hk => hb23.block k hk) hb23.size, m2.stay (fun k hk => hb23.block k hk) hb23.size, (hb23.block nb (Array.getElem?_eq_some_iff.1 hnm).1).trans hnm, by rw [HW3.out]; exact heap_alloc_new _ _⟩
      have OR := order_any w3.heap.size l.length Nn Uu two (some ⟨nb, 0, none⟩) (some ⟨bt, 0, none⟩) (some ⟨bf, 0, none⟩) l.length l.length l.length w3 H3.out.2.2.2.2.1 H3.out.2.2.2.2.2.1 (Nat.le_refl _) hl
      clear hb2 two hno hN m1 m2 hnm hb23
      go_wp2_with fail
      rw [← HW3.out]
      refine OR.mono ?_
      clear OR
      rintro e w4 ⟨hb4, o, v, rfl, hr, hg, hrest⟩
      obtain ⟨oa, oc, rfl, hoc, hof⟩ := hr.form
      have H4 : Hid (Below w3.heap.size w3 w4 ∧ RowI w3.heap.size (.slice oa o.length oc) o w4 ∧ Greedy l.length (row Nn) o ∧ (∀ k, k < l.length → k ∉ o → ∃ m ∈ row Nn k, m ∉ o) ∧ Below w.heap.size w w4) := ⟨hb4, hr, hg, hrest, H3.out.1.trans (hb4.mono H3.out.1.size)⟩
      have hol := hg.len_le
      have hbox : w4.heap[w2.heap.size]? = some (.cells #[.slice (some ⟨nb, 0, none⟩) l.length l.length, .slice (some ⟨bt, 0, none⟩) l.length l.length, .slice (some ⟨bf, 0, none⟩) l.length l.length] 40 (0, 0)) := (hb4.block _ (Array.getElem?_eq_some_iff.1 H3.out.2.2.2.2.2.2.2).1).trans H3.out.2.2.2.2.2.2.2
      have x0 : w4.cell? ⟨w2.heap.size, 0, none⟩ = some (.slice (some ⟨nb, 0, none⟩) l.length l.length) := by simp [World.cell?, hbox]
      have x1 : w4.cell? ⟨w2.heap.size, 1, none⟩ = some (.slice (some ⟨bt, 0, none⟩) l.length l.length) := by simp [World.cell?, hbox]
      have x2 : w4.cell? ⟨w2.heap.size, 2, none⟩ = some (.slice (some ⟨bf, 0, none⟩) l.length l.length) := by simp [World.cell?, hbox]
      have HBX : Hid (w4.heap[w2.heap.size]? = some (.cells #[.slice (some ⟨nb, 0, none⟩) l.length l.length, .slice (some ⟨bt, 0, none⟩) l.length l.length, .slice (some ⟨bf, 0, none⟩) l.length l.length] 40 (0, 0)) ∧ w4.heap[nb]? = some (.cells (S.map Value.string).toArray 9 (0, 0))) := ⟨hbox, (hb4.block nb (Array.getElem?_eq_some_iff.1 H3.out.2.2.2.2.2.2.1).1).trans H3.out.2.2.2.2.2.2.1⟩
      clear hb4 hr hg hrest hbox
      by_cases hlt : o.length < l.length
      · have LR := fun (u : World) (hu : Below w4.heap.size w4 u) => leastInRing_any w4.heap.size l.length Nn Uu H3.out.2.1 (some ⟨nb, 0, none⟩) (some ⟨bt, 0, none⟩) (some ⟨bf, 0, none⟩) l.length l.length l.length u ((H3.out.2.2.2.2.1.stay (fun k hk => H4.out.1.block k hk) H4.out.1.size).stay (fun k hk => hu.block k hk) (Nat.le_refl _)) ((H3.out.2.2.2.2.2.1.stay (fun k hk => H4.out.1.block k hk) H4.out.1.size).stay (fun k hk => hu.block k hk) (Nat.le_refl _)) hu.size hl (by omega)
        have HRG : Hid (∃ k, k < l.length ∧ Rch (row Nn) k k) := some_ring (fun k _ => H3.out.2.1.nlt k) H4.out.2.2.1 H4.out.2.2.2.1 hlt
        have hSl := HQ.out.2.len
        have LR' : ∀ u, Below w4.heap.size w4 u → Calls Try.prog 17 #[.agg #[.slice (some ⟨nb, 0, none⟩) l.length l.length, .slice (some ⟨bt, 0, none⟩) l.length l.length, .slice (some ⟨bf, 0, none⟩) l.length l.length]] u fun e w' => ∃ (r : Nat) (who : ByteArray), e = .returned (.int .i64 r) ∧ r < l.length ∧ Rch (row Nn) r r ∧ (∀ k, k < l.length → Rch (row Nn) k k → r ≤ k) ∧ S[r]? = some who ∧ who.size ≤ 1048576 ∧ Below w.heap.size w w' ∧ w'.cell? ⟨nb, r, none⟩ = some (.string who) ∧ w'.cell? ⟨w2.heap.size, 0, none⟩ = some (.slice (some ⟨nb, 0, none⟩) l.length l.length) := by
          intro u hu
          refine (LR u hu).mono ?_
          rintro e w5 ⟨hb5, r, rfl, hrn, hrr, hrle⟩
          obtain ⟨k, hk, hkk⟩ := HRG.out
          have hr1 := hrle k hk hkk
          have hrl : r < l.length := by omega
          have hb := hu.trans (hb5.mono hu.size)
          have hSr : S[r]? = some (S[r]'(by omega)) := List.getElem?_eq_getElem _
          refine ⟨r, _, rfl, hrl, hrr hrl, hrle, hSr, name_size HH.out.1 HQ.out.2 hSr, H4.out.2.2.2.2.trans (hb.mono H4.out.2.2.2.2.size), ?_, ?_⟩
          · simp [World.cell?, hb.block nb (Array.getElem?_eq_some_iff.1 HBX.out.2).1, HBX.out.2, hSr]
          · simp [World.cell?, hb.block _ (Array.getElem?_eq_some_iff.1 HBX.out.1).1, HBX.out.1]
        have LRH : Hid (∀ u, Below w4.heap.size w4 u → Calls Try.prog 17 #[.agg #[.slice (some ⟨nb, 0, none⟩) l.length l.length, .slice (some ⟨bt, 0, none⟩) l.length l.length, .slice (some ⟨bf, 0, none⟩) l.length l.length]] u fun e w' => ∃ (r : Nat) (who : ByteArray), e = .returned (.int .i64 r) ∧ r < l.length ∧ Rch (row Nn) r r ∧ (∀ k, k < l.length → Rch (row Nn) k k → r ≤ k) ∧ S[r]? = some who ∧ who.size ≤ 1048576 ∧ Below w.heap.size w w' ∧ w'.cell? ⟨nb, r, none⟩ = some (.string who) ∧ w'.cell? ⟨w2.heap.size, 0, none⟩ = some (.slice (some ⟨nb, 0, none⟩) l.length l.length)) := LR'
        clear LR LR'
        go_wp2_with fail
        go_region_with (first
          | (go_at_call 17; refine (LRH.out _ (by first | exact Below.refl _ _ | exact (Below.refl _ _).drew)).mono ?_; rintro e w5 ⟨r, who, rfl, hrl, hrr, hrle, hSr, hwz, hb5, y0, y1⟩; have H5 : Hid (Rch (row Nn) r r ∧ (∀ k, k < l.length → Rch (row Nn) k k → r ≤ k) ∧ S[r]? = some who ∧ Below w.heap.size w w5) := ⟨hrr, hrle, hSr, hb5⟩; clear hrr hrle hSr hb5)
          | (go_at_call 14; refine (Clone_any who _ hwz).mono ?_; rintro e w6 ⟨rfl, hb6⟩; have H6 : Hid (Below w.heap.size w w6) := H5.out.2.2.2.trans (hb6.mono H5.out.2.2.2.size); clear hb6))
        all_goals
          go_wp2_with fail
          go_ret3
          exact ⟨by first | exact H6.out | exact H6.out.drew, [], who, 9, .slice none 0 0, rfl, RowS.nil _ _, .cycle S (row Nn) r who HQ.out.2 H3.out.2.2.1 H3.out.2.2.2.1 hrl H5.out.1 H5.out.2.1 H5.out.2.2.1, hwz⟩
      · have hoe : o.length = l.length := by omega
        have hSl := HQ.out.2.len
        go_wp2_with fail
        go_loopw [10, 53] (fun v iv wr => ∃ (j : Nat) (out : List ByteArray), j ≤ o.length ∧ iv = .int .i64 j ∧ Hid (out = (o.take j).map (fun i => S.getD i ByteArray.empty)) ∧ Hid (Below w4.heap.size w4 wr ∧ RowS w4.heap.size v out wr)) (fun _ iv _ => o.length - (intOf iv).toNat)
        case atStart => exact ⟨0, [], Nat.zero_le _, rfl, by show _ = _; simp, Below.refl _ _, RowS.nil _ _⟩
        case round =>
          obtain ⟨j, out, hj, rfl, HO, HR⟩ := hrel
          by_cases hjl : j < o.length
          · obtain ⟨g, cap, hv, hgB, hgl, hgc⟩ := H4.out.2.1.is (by omega)
            obtain ⟨rfl, rfl⟩ : oa = some ⟨g, 0, none⟩ ∧ oc = cap := by simpa using hv
            have ci := H4.out.2.1.cell hjl
            obtain ⟨i, HI⟩ : ∃ i, Hid (o[j]? = some i) := ⟨o[j], List.getElem?_eq_getElem hjl⟩
            have hgd : o.getD j 0 = i := by simp [List.getD_eq_getElem?_getD, HI.out]
            rw [hgd] at ci
            have hil : i < l.length := H4.out.2.2.1.lt i (List.mem_of_getElem? HI.out)
            have hSi : S[i]? = some (S[i]'(by omega)) := List.getElem?_eq_getElem _
            obtain ⟨s, HS⟩ : ∃ s, Hid (S[i]? = some s) := ⟨_, hSi⟩
            have hsz := name_size HH.out.1 HQ.out.2 HS.out
            have c1 : wr.cell? ⟨g, j, none⟩ = some (.int .i64 i) := (HR.out.1.cell (p := ⟨g, j, none⟩) hgl).trans ci
            have c2 : wr.cell? ⟨w2.heap.size, 0, none⟩ = some (.slice (some ⟨nb, 0, none⟩) l.length l.length) := (HR.out.1.cell (p := ⟨w2.heap.size, 0, none⟩) (Array.getElem?_eq_some_iff.1 HBX.out.1).1).trans x0
            have c3 : wr.cell? ⟨nb, i, none⟩ = some (.string s) := by simp [World.cell?, HR.out.1.block nb (Array.getElem?_eq_some_iff.1 HBX.out.2).1, HBX.out.2, HS.out]
            have hout : out.length = j := by rw [HO.out]; simp; omega
            clear hv ci hgd hSi x0 x1 x2
            go_wp2_with fail
            refine (Clone_any s _ hsz).mono ?_
            rintro e w5 ⟨rfl, hb5⟩
            have H5 : Hid (Below w4.heap.size w4 w5 ∧ RowS w4.heap.size u10 out w5) := ⟨HR.out.1.trans (hb5.mono HR.out.1.size), HR.out.2.below hb5⟩
            clear hb5 c1 c2 c3
            go_wp2_with (at_builtin; refine wpList_pushS s _ rfl _ _ rfl w4.heap.size u10 out rfl H5.out.2 rfl (by simp) H5.out.1.size (by omega) ?_)
            intro g' cap' w6 hr6 hg6
            have H6 : Hid (Below w4.heap.size w4 w6 ∧ RowS w4.heap.size (.slice (some ⟨g', 0, none⟩) (j + 1) cap') (out ++ [s]) w6) := ⟨Below.grown H5.out.1 hg6 H5.out.1.size (fun k hk => (H5.out.2.lt hk).1), hr6⟩
            have HO2 : Hid (out ++ [s] = (o.take (j + 1)).map (fun i => S.getD i ByteArray.empty)) := by
              show _ = _
              rw [take_put HI.out, List.map_append, ← HO.out]
              simp [List.getD_eq_getElem?_getD, HS.out]
            clear hr6 hg6
            go_wp2_with fail
            go_roundw
            case rel => exact ⟨j + 1, _, by omega, by go_num, HO2.out, H6.out⟩
            case measure => simp [intOf]; omega
          · obtain rfl : j = o.length := by omega
            have HO2 : Hid (out = o.map (fun i => S.getD i ByteArray.empty)) := by
              show _ = _
              rw [HO.out, List.take_length]
            go_wp2_with fail
            go_ret3
            exact ⟨H4.out.2.2.2.2.trans (HR.out.1.mono H4.out.2.2.2.2.size), out, ByteArray.empty, 0, _, rfl, HR.out.2.mono H4.out.2.2.2.2.size, .ok S (row Nn) o out HQ.out.2 H3.out.2.2.1 H3.out.2.2.2.1 H4.out.2.2.1 hoe HO2.out, by simp⟩
end Go.Proofs.Ytilcongilokppad
