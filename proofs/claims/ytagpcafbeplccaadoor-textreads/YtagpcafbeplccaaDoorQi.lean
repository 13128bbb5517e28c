/- The document's Read, any text. -/
import Derived.Test.YtagpcafbeplccaaDoorQh
namespace Go.Proofs.YtagpcafbeplccaaDoor
set_option linter.unusedVariables false
set_option linter.unusedSimpArgs false
open Go.RowKit

set_option maxRecDepth 100000 in
set_option maxHeartbeats 1600000 in
theorem refRead_long (s : ByteArray) (w : World) (hs : 6000 < s.size) (hm : s.size ≤ maxLen) :
    Calls Tryd.prog 9 #[.string s] w fun e w' => e = .returned (.tuple #[.slice none 0 0, fv (4, 0)]) ∧ Below w.heap.size w w' := by
  unfold maxLen at hm
  have hs' : (6000 : Int) < (s.size : Int) := by omega
  go_enter Tryd.func9, Tryd.ntmps9
  go_wp2_with fail
  refine bodyPost_ret (v := .tuple #[.slice none 0 0, fv (4, 0)]) (by simp [results, Tryd.results9, go_sem, fv]) rfl ⟨rfl, ?_⟩
  exact (Below.refl _ _).alloc (Nat.le_refl _) _

def topR : Rd (List Dat) → Sum (Int × Int) (List Dat)
  | .inl e => .inl e
  | .inr (ds, _, _) => .inr ds

/-- What a round knows. -/
structure Aw (l : List UInt8) (s : ByteArray) (rb : Nat) (W wr : World) (v : Value) (es : List (Dat × Option Addr × Nat)) (j k m p : Nat) : Prop where
  pos : p = j + skipL (l.drop j) false
  ple : p ≤ s.size
  jle : j ≤ l.length
  mle : m ≤ 2000
  few : es.length ≤ m
  fuel : l.length + 1 ≤ j + k
  keep : Keep rb W wr
  wk : Wk rb s p m (0, 0) wr
  row : Row W.heap.size v es wr
  same : alls l (l.length + 1) 0 0 = pre (es.map (·.1)) (alls l k j m)

/-- What it knows when something was wrong. -/
structure Ax (l : List UInt8) (s : ByteArray) (rb : Nat) (W wr : World) (x : Int × Int) (j m : Nat) : Prop where
  jle : j ≤ s.size
  bad : x.1 ≠ 0
  keep : Keep rb W wr
  wk : Wk rb s j m x wr
  same : alls l (l.length + 1) 0 0 = .inl x

set_option maxRecDepth 100000 in
set_option maxHeartbeats 3200000 in
theorem refRead_short (s : ByteArray) (w : World) (hs : s.size ≤ 6000) :
    Calls Tryd.prog 9 #[.string s] w (OutR (topR (alls s.data.toList (s.data.toList.length + 1) 0 0)) w) := by
  have hs' : ¬ (6000 : Int) < (s.size : Int) := by omega
  have HLEN : Hid (s.data.toList.length = s.size) := Array.length_toList
  have IH : Hid (∀ (rb i n : Nat) (w : World), Wk rb s i n (0, 0) w → i ≤ s.size → n ≤ 2000 → Calls Tryd.prog 23 #[.pointer (some ⟨rb, 0, none⟩), .int .i64 1] w (OutW rb s (one s.data.toList 40 i n) w)) := fun rb i n w h hi hn => One_any rb s hs 40 (Nat.le_refl _) i n w h hi hn
  obtain ⟨l, hl⟩ : ∃ l, l = s.data.toList := ⟨_, rfl⟩
  have HLL : Hid (l = s.data.toList) := hl
  rw [← hl] at HLEN IH ⊢
  clear hl
  have WK0 : Hid (Wk (w.heap.size + 1) s 0 0 (0, 0) ((w.alloc (.cells #[.int .i64 0, .int .i64 0] 25)).alloc (.cells #[.string s, .int .i64 0, .int .i64 0, .int .i64 0, .int .i64 0] 44))) := ⟨by simp, by simp [go_sem], by simp [go_sem], by simp [go_sem], by simp [go_sem], by simp [go_sem], fun o => by simp [go_sem]⟩
  obtain ⟨i0, hinf, hz0, hz1', hz2'⟩ := info_parts infoDat
  have h0 : ((w.alloc (.cells #[.int .i64 0, .int .i64 0] 25)).alloc (.cells #[.string s, .int .i64 0, .int .i64 0, .int .i64 0, .int .i64 0] 44)).cell? ⟨w.heap.size, 0, none⟩ = some (.int .i64 0) := by simp [go_sem]
  have h1 : ((w.alloc (.cells #[.int .i64 0, .int .i64 0] 25)).alloc (.cells #[.string s, .int .i64 0, .int .i64 0, .int .i64 0, .int .i64 0] 44)).cell? ⟨w.heap.size, 1, none⟩ = some (.int .i64 0) := by simp [go_sem]
  have z0 : ((w.alloc (.cells #[.int .i64 0, .int .i64 0] 25)).alloc (.cells #[.string s, .int .i64 0, .int .i64 0, .int .i64 0, .int .i64 0] 44)).frozen? ⟨w.heap.size, 0, none⟩ = false := by simp [go_sem]
  have z1 : ((w.alloc (.cells #[.int .i64 0, .int .i64 0] 25)).alloc (.cells #[.string s, .int .i64 0, .int .i64 0, .int .i64 0, .int .i64 0] 44)).frozen? ⟨w.heap.size, 1, none⟩ = false := by simp [go_sem]
  have BOX : Hid _ := And.intro h0 (And.intro h1 (And.intro z0 z1))
  have BB : Hid (Below w.heap.size w ((w.alloc (.cells #[.int .i64 0, .int .i64 0] 25)).alloc (.cells #[.string s, .int .i64 0, .int .i64 0, .int .i64 0, .int .i64 0] 44))) := ((Below.refl _ _).alloc (Nat.le_refl _) _).alloc (by simp) _
  have SZ : ((w.alloc (.cells #[.int .i64 0, .int .i64 0] 25)).alloc (.cells #[.string s, .int .i64 0, .int .i64 0, .int .i64 0, .int .i64 0] 44)).heap.size = w.heap.size + 2 := by simp
  clear h0 h1 z0 z1
  go_enter Tryd.func9, Tryd.ntmps9
  go_wp2_with fail
  refine (rskip_any (w.heap.size + 1) s 0 0 (0, 0) _ WK0.out (Nat.zero_le _) hs).mono ?_
  rintro e w1 ⟨rfl, hk1, hr1⟩
  rw [← HLL.out] at hr1
  generalize ((w.alloc (.cells #[.int .i64 0, .int .i64 0] 25)).alloc (.cells #[.string s, .int .i64 0, .int .i64 0, .int .i64 0, .int .i64 0] 44)) = W at hk1 BOX BB SZ
  have hrbW : w.heap.size + 1 < W.heap.size := by omega
  clear SZ
  have START : Hid (Aw l s (w.heap.size + 1) W w1 (.slice none 0 0) [] 0 (l.length + 1) 0 (0 + skipL (l.drop 0) false)) := by
    have hle := skip_le l 0 (Nat.zero_le _)
    rw [HLEN.out] at hle
    exact ⟨rfl, hle, Nat.zero_le _, by omega, by simp, by omega, hk1, hr1, Row.nil _ _, (pre_nil _).symm⟩
  clear hk1 hr1 WK0
  go_wp2_with fail
  go_loopg [5] (s.size - (0 + skipL (l.drop 0) false) + 1) (fun g v wr => (∃ es j k m p, g = s.size - p + 1 ∧ Aw l s (w.heap.size + 1) W wr v es j k m p) ∨ (∃ x j m ao ln cp, g = 0 ∧ v = .slice ao ln cp ∧ Ax l s (w.heap.size + 1) W wr x j m))
  case atStart => exact Or.inl ⟨_, _, _, _, _, rfl, START.out⟩
  case round =>
    clear START
    rcases hrel with ⟨es, j, k, m, p, rfl, hA⟩ | ⟨x, j, m, ao, ln, cp, rfl, rfl, hX⟩
    · have HL : Hid (Aw l s (w.heap.size + 1) W wr u5 es j k m p) := hA
      have hp := hA.ple
      clear hA
      have hpos := HL.out.pos
      have hfu := HL.out.fuel
      have hfe := HL.out.few
      have hml := HL.out.mle
      have hjl := HL.out.jle
      have hlz := HLEN.out
      have c0 := HL.out.wk.c0
      have c1 := HL.out.wk.c1
      have hWr := HL.out.keep.size
      by_cases hlt : p < s.size
      · obtain ⟨k', hk'⟩ : ∃ k', k = k' + 1 := ⟨k - 1, by omega⟩
        have HK : Hid (k = k' + 1) := hk'
        clear hk'
        have IHP := IH.out (w.heap.size + 1) p m
        have HPOS : Hid (p = j + skipL (l.drop j) false) := hpos
        clear hpos hlz
        cases ho : one l 40 p m with
        | inl x =>
          have HQ : Hid (alls l (l.length + 1) 0 0 = .inl x) := by
            show alls l (l.length + 1) 0 0 = .inl x
            rw [HL.out.same, HK.out, alls_bad HPOS.out (by rw [HLEN.out]; exact hlt) ho]
            rfl
          have HXN : Hid (x.1 ≠ 0) := one_fault l 40 p m x ho
          have ONE : Hid (∀ w', Wk (w.heap.size + 1) s p m (0, 0) w' → Calls Tryd.prog 23 #[.pointer (some ⟨w.heap.size + 1, 0, none⟩), .int .i64 1] w' fun e w'' => Keep (w.heap.size + 1) w' w'' ∧ ∃ (d : Dat) (a : Option Addr) (cap : Nat), e = .returned (dv d a cap) ∧ ∃ j m, j ≤ s.size ∧ Wk (w.heap.size + 1) s j m x w'') := fun w' h => by
            have := IHP w' h hp hml
            rw [ho] at this
            exact this
          clear IHP ho
          go_wp2_with fail
          refine (good_yes (w.heap.size + 1) s p m _ HL.out.wk).mono ?_
          rintro e w2 ⟨rfl, rfl⟩
          go_wp2_with fail
          refine (ONE.out _ HL.out.wk).mono ?_
          rintro e w3 ⟨hk3, d, a', cap', rfl, j', m', hj', hr3⟩
          have H3 : Hid (Keep (w.heap.size + 1) W w3 ∧ Wk (w.heap.size + 1) s j' m' x w3 ∧ Row W.heap.size u5 es w3) := ⟨HL.out.keep.trans hk3, hr3, HL.out.row.keep hk3 hrbW⟩
          have hz3 := hk3.size
          unfold dv
          clear hk3 hr3 ONE c0 c1
          go_wp2_with (at_builtin; refine wpList_append_where rfl _ _ 22 rfl W.heap.size 46 i0 _ 6 72 Tryd.underlying22 hinf hz0 hz1' hz2' rfl (by decide) u5 es.length (flat es) rfl (by exact H3.out.2.2.own.alloc _) ⟨w3.heap.size, 0, none⟩ 1 1 [.int .i64 d.kind, .int .i64 d.n, .string d.name, .int .i64 d.stamp, .int .i64 d.lib, .slice a' d.kids.length cap'] rfl rfl ?c1 ?c2 (by decide) ?c3 ?c4 ?c5 ?_)
          case c1 => exact six_news w3 _ _ _ _ _ _
          case c2 => exact six_one _ _ _ _ _ _ _ _
          case c3 => unfold maxLen; omega
          case c4 => omega
          case c5 => simp; omega
          intro v' w4 hown4 hg4 hw4
          have hrow : ∀ k, u5.ownBlock = some k → W.heap.size ≤ k := fun k hk => (H3.out.2.2.own.lt k hk).1
          have H4 : Hid (Keep (w.heap.size + 1) W w4 ∧ Wk (w.heap.size + 1) s j' m' x w4) := by
            refine ⟨(H3.out.1.alloc _).grown hg4 hrow, (H3.out.2.1.alloc _).grown hg4 ?_⟩
            intro e
            have := hrow _ e.symm
            omega
          obtain ⟨ao, ln, cp, hv'⟩ : ∃ ao ln cp, v' = .slice ao ln cp := by
            rcases hown4.2 with ⟨hv, _⟩ | ⟨gg, cap, cur, hv, _⟩
            · exact ⟨_, _, _, hv⟩
            · exact ⟨_, _, _, hv⟩
          subst hv'
          clear hown4 hg4 hw4 hrow H3
          go_wp2_with fail
          refine (rskip_any (w.heap.size + 1) s j' m' x _ H4.out.2 hj' hs).mono ?_
          rintro e w5 ⟨rfl, hk5, hr5⟩
          have H5 : Hid (Ax l s (w.heap.size + 1) W w5 x (j' + skipL (s.data.toList.drop j') false) m') := ⟨by have := skip_le s.data.toList j' (by rw [← HLL.out, HLEN.out]; exact hj'); rw [← HLL.out, HLEN.out] at this; rw [← HLL.out]; exact this, HXN.out, H4.out.1.trans hk5, hr5, HQ.out⟩
          clear hk5 hr5 H4
          go_wp2_with fail
          go_roundg 0
          case measure => omega
          case rel => exact Or.inr ⟨_, _, _, _, _, _, rfl, rfl, H5.out⟩
        | inr y =>
          obtain ⟨d, j', m'⟩ := y
          have hw := one_went l 40 p m d j' m' (by rw [HLEN.out]; exact hp) hml ho
          have HWT : Hid (Went l p m j' m' d) := hw
          have HQ : Hid (alls l (l.length + 1) 0 0 = pre (es.map (·.1) ++ [d]) (alls l k' j' m')) := by
            show alls l (l.length + 1) 0 0 = pre (es.map (·.1) ++ [d]) (alls l k' j' m')
            rw [HL.out.same, HK.out, alls_step HPOS.out (by rw [HLEN.out]; exact hlt) ho, pre_pre]
          have ONE : Hid (∀ w', Wk (w.heap.size + 1) s p m (0, 0) w' → Calls Tryd.prog 23 #[.pointer (some ⟨w.heap.size + 1, 0, none⟩), .int .i64 1] w' fun e w'' => Keep (w.heap.size + 1) w' w'' ∧ Wk (w.heap.size + 1) s j' m' (0, 0) w'' ∧ ∃ a cap f, e = .returned (dv d a cap) ∧ Dw (New w' w'') w'' f a d.kids) := fun w' h => by
            have := IHP w' h hp hml
            rw [ho] at this
            exact this
          clear IHP ho hw
          go_wp2_with fail
          refine (good_yes (w.heap.size + 1) s p m _ HL.out.wk).mono ?_
          rintro e w2 ⟨rfl, rfl⟩
          go_wp2_with fail
          refine (ONE.out _ HL.out.wk).mono ?_
          rintro e w3 ⟨hk3, hr3, a', cap', f', rfl, hdw⟩
          have H3 : Hid (Keep (w.heap.size + 1) W w3 ∧ Wk (w.heap.size + 1) s j' m' (0, 0) w3 ∧ Row W.heap.size u5 es w3 ∧ Dw (New w2 w3) w3 f' a' d.kids) := ⟨HL.out.keep.trans hk3, hr3, HL.out.row.keep hk3 hrbW, hdw⟩
          have hz3 := hk3.size
          unfold dv
          clear hk3 hr3 hdw ONE c0 c1
          go_wp2_with (at_builtin; refine wpList_append_where rfl _ _ 22 rfl W.heap.size 46 i0 _ 6 72 Tryd.underlying22 hinf hz0 hz1' hz2' rfl (by decide) u5 es.length (flat es) rfl (by exact H3.out.2.2.1.own.alloc _) ⟨w3.heap.size, 0, none⟩ 1 1 [.int .i64 d.kind, .int .i64 d.n, .string d.name, .int .i64 d.stamp, .int .i64 d.lib, .slice a' d.kids.length cap'] rfl rfl ?c1 ?c2 (by decide) ?c3 ?c4 ?c5 ?_)
          case c1 => exact six_news w3 _ _ _ _ _ _
          case c2 => exact six_one _ _ _ _ _ _ _ _
          case c3 => unfold maxLen; omega
          case c4 => omega
          case c5 => simp; omega
          intro v' w4 hown4 hg4 hw4
          have hrow : ∀ k, u5.ownBlock = some k → W.heap.size ≤ k := fun k hk => (H3.out.2.2.1.own.lt k hk).1
          have HROW : Hid (Row W.heap.size v' (es ++ [(d, a', cap')]) w4) := by
            refine Row.push (wr := w2) _ H3.out.2.2.1 hWr (fun k hk => (HL.out.row.own.lt k hk).2) H3.out.2.2.2 (by have := HWT.out.name; unfold maxLen; omega) hown4 hg4 hw4
          have H4 : Hid (Keep (w.heap.size + 1) W w4 ∧ Wk (w.heap.size + 1) s j' m' (0, 0) w4) := by
            refine ⟨(H3.out.1.alloc _).grown hg4 hrow, (H3.out.2.1.alloc _).grown hg4 ?_⟩
            intro e
            have := hrow _ e.symm
            omega
          obtain ⟨ao, ln, cp, hv'⟩ : ∃ ao ln cp, v' = .slice ao ln cp := by
            rcases hown4.2 with ⟨hv, _⟩ | ⟨gg, cap, cur, hv, _⟩
            · exact ⟨_, _, _, hv⟩
            · exact ⟨_, _, _, hv⟩
          subst hv'
          clear hown4 hg4 hw4 hrow H3
          go_wp2_with fail
          refine (rskip_any (w.heap.size + 1) s j' m' (0, 0) _ H4.out.2 (by have := HWT.out.upto; rw [HLEN.out] at this; exact this) hs).mono ?_
          rintro e w5 ⟨rfl, hk5, hr5⟩
          rw [← HLL.out] at hr5
          have H5 : Hid (Aw l s (w.heap.size + 1) W w5 (.slice ao ln cp) (es ++ [(d, a', cap')]) j' k' m' (j' + skipL (l.drop j') false)) := by
            have hup := HWT.out.upto
            have hle := skip_le l j' hup
            have hkk := HK.out
            have hpo := HPOS.out
            have hon := HWT.out.on
            have hmo := HWT.out.more
            rw [HLEN.out] at hle
            refine ⟨rfl, hle, hup, HWT.out.much, by simp; omega, by omega, H4.out.1.trans hk5, hr5, HROW.out.keep hk5 hrbW, ?_⟩
            rw [HQ.out]
            simp
          clear hk5 hr5 H4
          go_wp2_with fail
          go_roundg (s.size - (j' + skipL (l.drop j') false) + 1)
          case measure => have := HWT.out.on; have := H5.out.ple; omega
          case rel => exact Or.inl ⟨_, _, _, _, _, rfl, H5.out⟩
      · obtain rfl : p = s.size := by omega
        have HQ : Hid (∃ j' m', alls l (l.length + 1) 0 0 = .inr (es.map (·.1), j', m')) := by
          obtain ⟨j', m', he⟩ := alls_end (l := l) (k := k) (m := m) hpos (by rw [HLEN.out]; exact Nat.le_refl _)
          refine ⟨j', m', ?_⟩
          rw [HL.out.same, he]
          simp [pre]
        clear hpos hlz
        have KK := HL.out.keep
        have n0 := (KK.cell (p := ⟨w.heap.size, 0, none⟩) (show w.heap.size < W.heap.size by omega) (show w.heap.size ≠ w.heap.size + 1 by omega)).trans BOX.out.1
        have n1 := (KK.cell (p := ⟨w.heap.size, 1, none⟩) (show w.heap.size < W.heap.size by omega) (show w.heap.size ≠ w.heap.size + 1 by omega)).trans BOX.out.2.1
        have y0 := (KK.frozen (p := ⟨w.heap.size, 0, none⟩) (show w.heap.size < W.heap.size by omega) (show w.heap.size ≠ w.heap.size + 1 by omega)).trans BOX.out.2.2.1
        have y1 := (KK.frozen (p := ⟨w.heap.size, 1, none⟩) (show w.heap.size < W.heap.size by omega) (show w.heap.size ≠ w.heap.size + 1 by omega)).trans BOX.out.2.2.2
        clear KK
        obtain ⟨a', cap', f', hv, hdw⟩ := HL.out.row.lie (by omega)
        have HDW : Hid _ := hdw
        subst hv
        clear hdw
        go_wp2_with fail
        refine (good_yes (w.heap.size + 1) s s.size m _ HL.out.wk).mono ?_
        rintro e w2 ⟨rfl, rfl⟩
        go_wp2_with fail
        refine (good_yes (w.heap.size + 1) s s.size m _ HL.out.wk).mono ?_
        rintro e w2 ⟨rfl, rfl⟩
        go_wp2_with fail
        refine bodyPost_ret (v := .tuple #[.slice a' (es.map (·.1)).length cap', fv (0, 0)]) (by simp [results, Tryd.results9, go_sem, fv, n0, n1]) rfl ?_
        obtain ⟨j', m', he⟩ := HQ.out
        rw [he]
        refine ⟨?_, a', cap', f', rfl, ?_⟩
        · exact ((BB.out.trans (HL.out.keep.toBelow (by omega) (by omega))).setCell (p := ⟨w.heap.size, 0, none⟩) (Nat.le_refl _) _).setCell (p := ⟨w.heap.size, 1, none⟩) (Nat.le_refl _) _
        · refine Dw.stay ?_ ?_ f' _ _ HDW.out
          · intro b hb
            have hb1 := hb.1
            have hbn : b ≠ w.heap.size := by omega
            rw [Below.heap_setCell _ _ _ _ hbn, Below.heap_setCell _ _ _ _ hbn]
          · intro b hb
            have hb1 := hb.1
            have hb2 := hb.2
            exact ⟨by omega, by simp [World.setCell]; exact hb2⟩
    · have HL : Hid (Ax l s (w.heap.size + 1) W wr x j m) := hX
      have KK := hX.keep
      have n0 := (KK.cell (p := ⟨w.heap.size, 0, none⟩) (show w.heap.size < W.heap.size by omega) (show w.heap.size ≠ w.heap.size + 1 by omega)).trans BOX.out.1
      have n1 := (KK.cell (p := ⟨w.heap.size, 1, none⟩) (show w.heap.size < W.heap.size by omega) (show w.heap.size ≠ w.heap.size + 1 by omega)).trans BOX.out.2.1
      have y0 := (KK.frozen (p := ⟨w.heap.size, 0, none⟩) (show w.heap.size < W.heap.size by omega) (show w.heap.size ≠ w.heap.size + 1 by omega)).trans BOX.out.2.2.1
      have y1 := (KK.frozen (p := ⟨w.heap.size, 1, none⟩) (show w.heap.size < W.heap.size by omega) (show w.heap.size ≠ w.heap.size + 1 by omega)).trans BOX.out.2.2.2
      clear KK hX
      have c3 := HL.out.wk.c3
      have c4 := HL.out.wk.c4
      go_wp2_with fail
      refine (good_no (w.heap.size + 1) s j m x _ HL.out.wk HL.out.bad).mono ?_
      rintro e w2 ⟨rfl, rfl⟩
      go_wp2_with fail
      refine (good_no (w.heap.size + 1) s j m x _ HL.out.wk HL.out.bad).mono ?_
      rintro e w2 ⟨rfl, rfl⟩
      go_wp2_with fail
      go_region
      all_goals
        go_wp2_with fail
        refine bodyPost_ret (v := .tuple #[.slice none 0 0, fv x]) (by simp [results, Tryd.results9, go_sem, fv, n0, n1]) rfl ?_
        rw [HL.out.same]
        exact ⟨((BB.out.trans (HL.out.keep.toBelow (by omega) (by omega))).drew.setCell (p := ⟨w.heap.size, 0, none⟩) (Nat.le_refl _) _).setCell (p := ⟨w.heap.size, 1, none⟩) (Nat.le_refl _) _, rfl⟩

theorem refRead_any (s : ByteArray) (w : World) (hm : s.size ≤ maxLen) : Calls Tryd.prog 9 #[.string s] w (OutR (readL s.data.toList) w) := by
  have hl : s.data.toList.length = s.size := Array.length_toList
  unfold readL
  rw [hl]
  by_cases h : 6000 < s.size
  · rw [if_pos h]
    refine (refRead_long s w h hm).mono ?_
    rintro e w' ⟨rfl, hb⟩
    exact ⟨hb, rfl⟩
  · rw [if_neg h]
    have hr := refRead_short s w (by omega)
    rw [hl] at hr
    cases ha : alls s.data.toList (s.size + 1) 0 0 with
    | inl e => rw [ha] at hr; exact hr
    | inr x => rw [ha] at hr; exact hr
end Go.Proofs.YtagpcafbeplccaaDoor
