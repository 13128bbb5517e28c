/- A reader's data: any datum. A reader's whole text. -/
import Derived.Test.YtonafbennobgdaaGreatDoorK29
namespace Go.Proofs.YtonafbennobgdaaGreatDoor
section
set_option linter.unusedVariables false
set_option linter.unusedSimpArgs false
open Go.RowKit

theorem byte_eq (c k : UInt8) : ((c.toNat : Int) == (k.toNat : Int)) = decide (c = k) := by
  by_cases e : c = k
  · subst e; simp
  · have : ¬ c.toNat = k.toNat := fun h => e (UInt8.toNat_inj.1 h)
    simp [e]
    omega

theorem datum_read (rb : Nat) (s : ByteArray) (hs : s.size ≤ 6000) : ∀ (f : Nat), f ≤ 40 → ∀ (i n : Nat) (w : World), Rdr rb s i n w → i ≤ s.size → n ≤ 2000 →
    Calls Tryz.prog 73 #[.pointer (some ⟨rb, 0, none⟩), .int .i64 (41 - (f : Int))] w (Out rb s (one s.data.toList f i n) w)
  | 0, _, i, n, w, h, hi, hn => by
    show Calls Tryz.prog 73 #[.pointer (some ⟨rb, 0, none⟩), .int .i64 41] w (Out rb s (.inl (4, (i : Int))) w)
    refine datum_over rb s i n 41 w h (fun w h => ?_)
    by_cases h2 : n = 2000
    · exact count_much rb s i n 41 w h h2
    · exact count_deep rb s i n w h (by omega)
  | f + 1, hf, i, n, w, h, hi, hn => by
    have hd0 : 1 ≤ 41 - ((f + 1 : Nat) : Int) := by omega
    have hd : 41 - ((f + 1 : Nat) : Int) ≤ 40 := by omega
    have hlen : s.data.toList.length = s.size := Array.length_toList
    have IH : ∀ (i n : Nat) (w : World), Rdr rb s i n w → i ≤ s.size → n ≤ 2000 → Calls Tryz.prog 73 #[.pointer (some ⟨rb, 0, none⟩), .int .i64 (41 - ((f + 1 : Nat) : Int) + 1)] w (Out rb s (one s.data.toList f i n) w) := by
      intro i n w h hi hn
      have := datum_read rb s hs f (by omega) i n w h hi hn
      rw [show 41 - ((f + 1 : Nat) : Int) + 1 = 41 - (f : Int) from by omega]
      exact this
    generalize hdp : 41 - ((f + 1 : Nat) : Int) = dp at hd0 hd IH
    unfold one
    by_cases h2 : 2000 < n + 1
    · rw [if_pos h2]
      exact datum_over rb s i n dp w h (fun w h => count_much rb s i n dp w h (by omega))
    · rw [if_neg h2]
      by_cases hlt : i < s.size
      · rw [at_of hlt]
        simp only
        by_cases c40 : s[i] = 40
        · rw [if_pos c40]
          have b1 : ((s[i].toNat : Int) == 40) = true := (byte_eq s[i] 40).trans (by simp [c40])
          have := datum_open rb s i n dp w h hlt hs (by omega) hd0 hd (asList (items (one s.data.toList f) s.data.toList (s.data.toList.length + 1) (i + 1) (n + 1))) b1 (fun w h => list_read rb s f i (n + 1) dp w h hlt hs (by omega) hd0 hd IH)
          generalize items (one s.data.toList f) s.data.toList (s.data.toList.length + 1) (i + 1) (n + 1) = r at this ⊢
          cases r with
          | inl e => exact this
          | inr y => exact this
        · rw [if_neg c40]
          have b1 : ((s[i].toNat : Int) == 40) = false := (byte_eq s[i] 40).trans (by simp [c40])
          by_cases c39 : s[i] = 39
          · rw [if_pos c39]
            have b2 : ((s[i].toNat : Int) == 39) = true := (byte_eq s[i] 39).trans (by simp [c39])
            by_cases hq : f = 0 ∨ 2000 < n + 2
            · rw [if_pos hq]
              refine datum_tick rb s i n dp w h hlt hs (by omega) hd0 hd (.inl (4, (i : Int))) b1 b2 (fun w h => ?_)
              refine quote_much rb s i (n + 1) dp w h hd0 hd (fun w h => ?_)
              by_cases h3 : n + 1 = 2000
              · exact count_much rb s i (n + 1) (dp + 1) w h h3
              · have hd41 : dp + 1 = 41 := by omega
                rw [hd41]
                exact count_deep rb s i (n + 1) w h (by omega)
            · rw [if_neg hq]
              have hsk := skip_le s.data.toList (i + 1) (by omega)
              rw [hlen] at hsk
              have ih1 : ∀ w, Rdr rb s (i + 1 + skipL (s.data.toList.drop (i + 1)) false) (n + 1 + 1) w → Calls Tryz.prog 73 #[.pointer (some ⟨rb, 0, none⟩), .int .i64 (dp + 1)] w (Out rb s (one s.data.toList f (i + 1 + skipL (s.data.toList.drop (i + 1)) false) (n + 2)) w) := fun w h => IH _ _ w h hsk (by omega)
              cases ho : one s.data.toList f (i + 1 + skipL (s.data.toList.drop (i + 1)) false) (n + 2) with
              | inl x =>
                rw [ho] at ih1
                exact datum_tick rb s i n dp w h hlt hs (by omega) hd0 hd (.inl x) b1 b2 (fun w h => quote_bad rb s i (n + 1) dp w h hlt hs (by omega) hd0 (by omega) x ih1)
              | inr y =>
                obtain ⟨d, j, m⟩ := y
                rw [ho] at ih1
                have hw := one_went s.data.toList f _ _ d j m (by rw [hlen]; exact hsk) (by omega) ho
                exact datum_tick rb s i n dp w h hlt hs (by omega) hd0 hd (.inr (datQuote d, j, m)) b1 b2 (fun w h => quote_read rb s i (n + 1) dp w h hlt hs (by omega) hd0 (by omega) d j m hw.name ih1)
          · rw [if_neg c39]
            have b2 : ((s[i].toNat : Int) == 39) = false := (byte_eq s[i] 39).trans (by simp [c39])
            by_cases c35 : s[i] = 35
            · rw [if_pos c35]
              have b3 : ((s[i].toNat : Int) == 35) = true := (byte_eq s[i] 35).trans (by simp [c35])
              exact datum_hash rb s i n dp w h hlt hs (by omega) hd0 hd (truthAt (byteL (s.data.toList.drop (i + 1))) i (n + 1)) b1 b2 b3 (fun w h => truth_read rb s i (n + 1) w h hlt hs)
            · rw [if_neg c35]
              have b3 : ((s[i].toNat : Int) == 35) = false := (byte_eq s[i] 35).trans (by simp [c35])
              cases b4 : letB (s[i].toNat : Int) with
              | true => exact datum_word rb s i n dp w h hlt hs (by omega) hd0 hd (wordAt (byteL (s.data.toList.drop i)) i (n + 1)) b1 b2 b3 b4 (fun w h => word_any rb s i (n + 1) w h hlt hs)
              | false => exact datum_none rb s i n dp w h hlt hs (by omega) hd0 hd b1 b2 b3 b4
      · obtain rfl : i = s.size := by omega
        rw [List.getElem?_eq_none (by omega)]
        exact datum_end rb s n dp w h (by omega) hd
end
section
set_option linter.unusedVariables false
set_option linter.unusedSimpArgs false
open Go.RowKit

section
variable {l : List UInt8} {k j m p : Nat}
theorem alls_end (hp : p = j + skipL (l.drop j) false) (h : l.length ≤ p) : ∃ j' m', alls l k j m = .inr ([], j', m') := by
  cases k with
  | zero => exact ⟨_, _, rfl⟩
  | succ k =>
    subst hp
    unfold alls
    simp only
    rw [if_pos h]
    exact ⟨_, _, rfl⟩
theorem alls_bad {x : Int × Int} (hp : p = j + skipL (l.drop j) false) (h : p < l.length) (hg : one l 40 p m = .inl x) : alls l (k + 1) j m = .inl x := by
  subst hp
  unfold alls
  simp only
  rw [if_neg (by omega), hg]
theorem alls_step {d : Dat} {j' m' : Nat} (hp : p = j + skipL (l.drop j) false) (h : p < l.length) (hg : one l 40 p m = .inr (d, j', m')) : alls l (k + 1) j m = pre [d] (alls l k j' m') := by
  subst hp
  conv => lhs; unfold alls
  simp only
  rw [if_neg (by omega), hg]
  simp only
  cases alls l k j' m' with
  | inl e => rfl
  | inr x => rfl
end

/-- What a reading of a text leaves. -/
def OutA (rb : Nat) (r : Rd (List Dat)) (w : World) (e : Ending) (w' : World) : Prop :=
  match r with
  | .inl x => e = .panicked (thrown x) ∧ Keep rb w w'
  | .inr (ds, _, _) => Keep rb w w' ∧ ∃ a cap f, e = .returned (.slice a ds.length cap) ∧ Dw (NewT w w') w' f a cap ds

/-- What a round of reading a text knows. -/
structure Als (l : List UInt8) (s : ByteArray) (rb : Nat) (w : World) (g : Nat) (v : Value) (wr : World) (es : List (Dat × Option Addr × Nat)) (j k m p : Nat) : Prop where
  pos : p = j + skipL (l.drop j) false
  ple : p ≤ s.size
  jle : j ≤ l.length
  mle : m ≤ 2000
  few : es.length ≤ m
  fuel : l.length + 1 ≤ j + k
  ghost : g = s.size - p
  keep : Keep rb w wr
  rdr : Rdr rb s p m wr
  row : Row w.heap.size v es wr
  same : alls l (l.length + 1) 0 0 = pre (es.map (·.1)) (alls l k j m)

set_option maxRecDepth 100000 in
set_option maxHeartbeats 6400000 in
theorem all_read (rb : Nat) (s : ByteArray) (w : World) (h : Rdr rb s 0 0 w) (hs : s.size ≤ 6000) :
    Calls Tryz.prog 48 #[.pointer (some ⟨rb, 0, none⟩)] w (OutA rb (alls s.data.toList (s.data.toList.length + 1) 0 0) w) := by
  have HLEN : Hid (s.data.toList.length = s.size) := Array.length_toList
  have l1 := h.lt
  have HR : Hid (Rdr rb s 0 0 w) := h
  clear h
  obtain ⟨l, hl⟩ : ∃ l, l = s.data.toList := ⟨_, rfl⟩
  have HLL : Hid (l = s.data.toList) := hl
  have IH : Hid (∀ (i n : Nat) (w : World), Rdr rb s i n w → i ≤ s.size → n ≤ 2000 → Calls Tryz.prog 73 #[.pointer (some ⟨rb, 0, none⟩), .int .i64 1] w (Out rb s (one s.data.toList 40 i n) w)) := fun i n w h hi hn => datum_read rb s hs 40 (Nat.le_refl _) i n w h hi hn
  rw [← hl] at HLEN IH ⊢
  clear hl
  obtain ⟨i0, hinf, hz0, hz1, hz2⟩ := info_parts infoDatT
  go_enter Tryz.func48, Tryz.ntmps48
  go_wp2_with fail
  refine (skip_any rb s 0 0 _ HR.out (Nat.zero_le _) hs).mono ?_
  rintro e w1 ⟨rfl, hk1, hr1⟩
  have START : Hid (Als l s rb w (s.size - (0 + skipL (l.drop 0) false)) (.slice none 0 0) w1 [] 0 (l.length + 1) 0 (0 + skipL (l.drop 0) false)) := by
    have hle := skip_le l 0 (Nat.zero_le _)
    rw [HLEN.out] at hle
    exact ⟨rfl, hle, Nat.zero_le _, by omega, by simp, by omega, rfl, hk1, by rw [HLL.out]; exact hr1, Row.nil _ _, (pre_nil _).symm⟩
  clear hk1 hr1 HR
  go_wp2_with fail
  go_loopg [3] (s.size - (0 + skipL (l.drop 0) false)) (fun g v wr => ∃ es j k m p, Als l s rb w g v wr es j k m p)
  case atStart => exact ⟨_, _, _, _, _, START.out⟩
  case round =>
    clear START
    obtain ⟨es, j, k, m, p, hals⟩ := hrel
    have HL : Hid (Als l s rb w gk u3 wr es j k m p) := hals
    have hp := hals.ple
    have hgk := hals.ghost
    have hsz := hals.keep.size
    have en := ended_any rb s p m wr hals.rdr
    clear hals
    by_cases hlt : p < s.size
    · obtain ⟨k', hk'⟩ : ∃ k', k = k' + 1 := ⟨k - 1, by have := HL.out.fuel; have := HL.out.pos; have := HLEN.out; omega⟩
      have HK : Hid (k = k' + 1) := hk'
      clear hk'
      rw [show ((p : Int) == (s.size : Int)) = false from by simp; omega] at en
      have EN : Hid (Calls Tryz.prog 72 #[.pointer (some ⟨rb, 0, none⟩)] wr fun e w' => e = .returned (.bool false) ∧ Below wr.heap.size wr w') := en
      clear en
      go_wp2_with fail
      refine EN.out.mono ?_
      rintro e w2 ⟨rfl, hb2⟩
      have HR2 : Hid (Keep rb w w2 ∧ Rdr rb s p m w2 ∧ Row w.heap.size u3 es w2) := ⟨HL.out.keep.below hb2, HL.out.rdr.below hb2, HL.out.row.below hb2⟩
      have hs2 := hb2.size
      clear hb2 EN
      go_wp2_with fail
      refine (IH.out p m _ HR2.out.2.1 hp (HL.out.mle)).mono ?_
      intro e w3 hout
      cases ho : one l 40 p m with
      | inl x =>
        rw [ho] at hout
        obtain ⟨rfl, hk3⟩ := hout
        have HQ : Hid (alls l (l.length + 1) 0 0 = .inl x) := by
          show alls l (l.length + 1) 0 0 = .inl x
          rw [HL.out.same, HK.out, alls_bad HL.out.pos (by rw [HLEN.out]; exact hlt) ho]
          rfl
        have hkk : Keep rb w w3 := HR2.out.1.trans hk3
        clear hk3 ho
        go_wp2_with fail
        refine ⟨rfl, ?_⟩
        rw [HQ.out]
        exact ⟨rfl, hkk⟩
      | inr y =>
        obtain ⟨d, j', m'⟩ := y
        rw [ho] at hout
        obtain ⟨hk3, hr3, a', cap', f', rfl, hdw⟩ := hout
        have hw := one_went l 40 p m d j' m' (by rw [HLEN.out]; exact hp) HL.out.mle ho
        have HWT : Hid (Went l p m j' m' d) := hw
        have HQ : Hid (alls l (l.length + 1) 0 0 = pre (es.map (·.1) ++ [d]) (alls l k' j' m')) := by
          show alls l (l.length + 1) 0 0 = pre (es.map (·.1) ++ [d]) (alls l k' j' m')
          rw [HL.out.same, HK.out, alls_step HL.out.pos (by rw [HLEN.out]; exact hlt) ho, pre_pre]
        have H3 : Hid (Keep rb w w3 ∧ Rdr rb s j' m' w3 ∧ Row w.heap.size u3 es w3 ∧ Dw (NewT w2 w3) w3 f' a' cap' d.kids) := ⟨HR2.out.1.trans hk3, hr3, HR2.out.2.2.keep hk3 l1, hdw⟩
        have hs3 := hk3.size
        unfold dv
        clear hk3 hr3 hdw hw ho
        go_wp2_with (at_builtin; refine wpList_append_whereT rfl _ _ 24 rfl w.heap.size 26 i0 _ 6 72 Tryz.underlying24 hinf hz0 hz1 hz2 rfl (by decide) u3 es.length (flatT es) rfl (by exact H3.out.2.2.1.own.alloc _) ⟨w3.heap.size, 0, none⟩ 1 1 [.int .i64 d.kind, .int .i64 d.n, .string d.name, .int .i64 d.stamp, .int .i64 d.lib, .slice a' d.kids.length cap'] rfl rfl ?c1 ?c2 (by decide) ?c3 ?c4 ?c5 ?_)
        case c1 =>
          intro q u hq
          have hcell := World.cell?_alloc_mark w3 #[.int .i64 d.kind, .int .i64 d.n, .string d.name, .int .i64 d.stamp, .int .i64 d.lib, .slice a' d.kids.length cap'] 26 (0, 0) q
          have hadd : (⟨w3.heap.size, 0, none⟩ : Addr).add q = ⟨w3.heap.size, q, none⟩ := by unfold Addr.add; split <;> simp_all
          rw [hadd, hcell]
          simpa using hq
        case c2 =>
          intro u hu
          simp at hu
          rcases hu with rfl | rfl | rfl | rfl | rfl | rfl <;> rfl
        case c3 => have := HL.out.few; have := HL.out.mle; unfold maxLen; omega
        case c4 => have := HL.out.few; have := HL.out.mle; omega
        case c5 => simp; omega
        intro v' w4 hown4 hg4 hw4
        have HROW : Hid (Row w.heap.size v' (es ++ [(d, a', cap')]) w4) := by
          refine Row.push (wr := w2) _ H3.out.2.2.1 (by omega) (fun k hk => (HR2.out.2.2.own.lt k hk).2) H3.out.2.2.2 (by have := HWT.out.name; unfold maxLen; omega) hown4 hg4 hw4
        have hrow : ∀ k, u3.ownBlock = some k → w.heap.size ≤ k := fun k hk => (HR2.out.2.2.own.lt k hk).1
        have H4 : Hid (Keep rb w w4 ∧ Rdr rb s j' m' w4) := by
          refine ⟨(H3.out.1.alloc _).grown hg4 hrow, (H3.out.2.1.alloc _).grown hg4 ?_⟩
          intro e
          have := hrow rb e.symm
          omega
        clear hown4 hg4 hw4 hrow H3
        obtain ⟨ao, ln, cp, hv'⟩ : ∃ ao ln cp, v' = .slice ao ln cp := by
          rcases HROW.out.own.2 with ⟨hv, _⟩ | ⟨gg, cap, cur, hv, _⟩
          · exact ⟨_, _, _, hv⟩
          · exact ⟨_, _, _, hv⟩
        subst hv'
        go_wp2_with fail
        refine (skip_any rb s j' m' _ H4.out.2 (by have := HWT.out.upto; rw [HLEN.out] at this; exact this) hs).mono ?_
        rintro e w5 ⟨rfl, hk5, hr5⟩
        have H5 : Hid (Als l s rb w (s.size - (j' + skipL (l.drop j') false)) (.slice ao ln cp) w5 (es ++ [(d, a', cap')]) j' k' m' (j' + skipL (l.drop j') false)) := by
          have hup := HWT.out.upto
          have hle := skip_le l j' hup
          have hfu := HL.out.fuel
          have hkk := HK.out
          have hpo := HL.out.pos
          have hon := HWT.out.on
          have hmo := HWT.out.more
          have hfe := HL.out.few
          rw [HLEN.out] at hle
          refine ⟨rfl, hle, hup, HWT.out.much, by simp; omega, by omega, rfl, H4.out.1.trans hk5, by rw [HLL.out]; exact hr5, HROW.out.keep hk5 l1, ?_⟩
          rw [HQ.out]
          simp
        clear hk5 hr5
        go_wp2_with fail
        go_roundg (s.size - (j' + skipL (l.drop j') false))
        case measure => have := HWT.out.on; have := H5.out.ple; omega
        case rel => exact ⟨_, _, _, _, _, H5.out⟩
    · obtain rfl : p = s.size := by omega
      rw [show ((s.size : Int) == (s.size : Int)) = true from by simp] at en
      have EN : Hid (Calls Tryz.prog 72 #[.pointer (some ⟨rb, 0, none⟩)] wr fun e w' => e = .returned (.bool true) ∧ Below wr.heap.size wr w') := en
      clear en
      have HQ : Hid (∃ j' m', alls l (l.length + 1) 0 0 = .inr (es.map (·.1), j', m')) := by
        obtain ⟨j', m', he⟩ := alls_end (l := l) (k := k) (m := m) HL.out.pos (by rw [HLEN.out]; exact Nat.le_refl _)
        refine ⟨j', m', ?_⟩
        rw [HL.out.same, he]
        simp [pre]
      go_wp2_with fail
      refine EN.out.mono ?_
      rintro e w2 ⟨rfl, hb2⟩
      have H2 : Hid (Keep rb w w2 ∧ Row w.heap.size u3 es w2) := ⟨HL.out.keep.below hb2, HL.out.row.below hb2⟩
      clear hb2 EN
      obtain ⟨a', cap', f', hv, hdw⟩ := H2.out.2.lie (by have := HL.out.few; have := HL.out.mle; omega)
      have HDW : Hid (Dw (NewT w w2) w2 f' a' cap' (es.map (·.1))) := hdw
      subst hv
      clear hdw
      go_wp2_with fail
      go_ret
      obtain ⟨j', m', he⟩ := HQ.out
      rw [he]
      exact ⟨H2.out.1, a', cap', f', by rw [List.length_map]; rfl, HDW.out⟩
end
end Go.Proofs.YtonafbennobgdaaGreatDoor
