/- Chapter 8's laws: the lambdas' parameters noted. -/
import Derived.Test.YtbbmdhkbndgdkaaK35
import Derived.Laws.EntriesVeiled
namespace Go.Proofs.Ytbbmdhkbndgdkaa
set_option linter.unusedVariables false
set_option linter.unusedSimpArgs false
open Go.RowKit

theorem infoInt : (Try.prog.info? 3).map (fun i => (i.zero, i.size, i.bytes)) = some (some (.int .i64 0), 1, 8) := by kernel_rfl
def ints (xs : List Int) : List Value := xs.map (fun x => .int .i64 x)
/-- A row of numbers in a box. -/
structure AR (B ab : Nat) (av : Value) (xs : List Int) (w : World) : Prop where
  box : w.heap[ab]? = some (.cells #[av] 34 (0, 0))
  bb : B ≤ ab
  row : w.ownsRow B 3 1 av xs.length (ints xs)
  sep : av.ownBlock ≠ some ab
structure FA (B ab : Nat) (av av' : Value) (w w' : World) : Prop where
  low : Below B w w'
  keep : ∀ b, b < w.heap.size → b ≠ ab → some b ≠ av.ownBlock → w'.heap[b]? = w.heap[b]?
  ev : av'.ownBlock = av.ownBlock ∨ ∃ g, av'.ownBlock = some g ∧ w.heap.size ≤ g
theorem FA.refl (B ab : Nat) (av : Value) (w : World) : FA B ab av av w w := ⟨Below.refl _ _, fun _ _ _ _ => rfl, Or.inl rfl⟩
theorem FA.trans {B ab : Nat} {av av1 av2 : Value} {w w1 w2 : World} (h : FA B ab av av1 w w1) (k : FA B ab av1 av2 w1 w2) : FA B ab av av2 w w2 := by
  have fr : ∀ b, b < w.heap.size → some b ≠ av.ownBlock → some b ≠ av1.ownBlock := by
    intro b hb hn
    rcases h.ev with e | ⟨g, e, hg⟩
    · rw [e]; exact hn
    · rw [e]; intro e2; have := Option.some.inj e2; omega
  refine ⟨h.low.trans k.low, fun b hb h1 h2 => (k.keep b (Nat.lt_of_lt_of_le hb h.low.size) h1 (fr b hb h2)).trans (h.keep b hb h1 h2), ?_⟩
  rcases k.ev with e | ⟨g, e, hg⟩
  · rcases h.ev with e2 | ⟨g, e2, hg⟩
    · exact Or.inl (e.trans e2)
    · exact Or.inr ⟨g, e.trans e2, hg⟩
  · exact Or.inr ⟨g, e, Nat.le_trans h.low.size hg⟩
theorem FA.of_below {B ab : Nat} {av : Value} {w w' : World} (hb : Below w.heap.size w w') (hB : B ≤ w.heap.size) : FA B ab av av w w' := ⟨hb.mono hB, fun b h _ _ => hb.block b h, Or.inl rfl⟩
section
variable {B ab : Nat} {av : Value} {xs : List Int} {w w' : World}
theorem AR.lt (h : AR B ab av xs w) : ab < w.heap.size := (Array.getElem?_eq_some_iff.1 h.box).1
theorem AR.ble (h : AR B ab av xs w) : B ≤ w.heap.size := Nat.le_of_lt (Nat.lt_of_le_of_lt h.bb h.lt)
theorem AR.below (h : AR B ab av xs w) (hb : Below w.heap.size w w') : AR B ab av xs w' := ⟨(hb.block _ h.lt).trans h.box, h.bb, own_below h.row hb, h.sep⟩
theorem AR.slice (h : AR B ab av xs w) : ∃ a cap, av = .slice a xs.length cap ∧ xs.length ≤ cap := by
  rcases h.row.2 with ⟨rfl, h0⟩ | ⟨g, cap, cur, rfl, hbg, hg, hnc, hcm, hcs, htake⟩
  · exact ⟨none, 0, by rw [h0], by rw [h0]; exact Nat.le_refl _⟩
  · exact ⟨some ⟨g, 0, none⟩, cap, rfl, hnc⟩
theorem AR.apart40 (h : AR B ab av xs w) {k : Nat} {cs : Array Value} (hk : w.heap[k]? = some (.cells cs 40 (0, 0))) : k ≠ ab ∧ some k ≠ av.ownBlock := by
  constructor
  · rintro rfl
    rw [h.box] at hk
    simp at hk
  · intro e
    rcases h.row.2 with ⟨rfl, _⟩ | ⟨g, cap, cur, rfl, _, hg, _⟩
    · simp [Value.ownBlock] at e
    · have e2 : k = g := by simpa [Value.ownBlock] using e
      rw [e2, hg] at hk
      simp at hk
/-- A box of another type is none of these. -/
theorem AR.apart (h : AR B ab av xs w) {k : Nat} {cs : Array Value} {t : TypeId} (hk : w.heap[k]? = some (.cells cs t (0, 0))) (ht : t = 35 ∨ t = 24 ∨ t = 27) : k ≠ ab ∧ some k ≠ av.ownBlock := by
  constructor
  · rintro rfl
    rw [h.box] at hk
    rcases ht with rfl | rfl | rfl <;> simp at hk
  · intro e
    rcases h.row.2 with ⟨rfl, _⟩ | ⟨g, cap, cur, rfl, _, hg, _⟩
    · simp [Value.ownBlock] at e
    · have e2 : k = g := by simpa [Value.ownBlock] using e
      rw [e2, hg] at hk
      rcases ht with rfl | rfl | rfl <;> simp at hk
end
theorem AR.push {B ab : Nat} {av av' : Value} {xs : List Int} {w w2 w4 : World} (h : AR B ab av xs w) (h2 : Below w.heap.size w w2) (x : Int)
    (hown : w4.ownsRow B 3 1 av' (xs.length + 1) (ints xs ++ [.int .i64 x])) (hg : w2.grownBy w4 av.ownBlock) (hw : av'.ownBlock = av.ownBlock ∨ av'.ownBlock = some w2.heap.size) :
    AR B ab av' (xs ++ [x]) (w4.setCell ⟨ab, 0, none⟩ av') ∧ FA B ab av av' w (w4.setCell ⟨ab, 0, none⟩ av') := by
  have m2 := h.below h2
  have hs2 := h2.size
  have hs4 := hg.size
  have hlt := m2.lt
  have hke : Keep ab w4 (w4.setCell ⟨ab, 0, none⟩ av') := (Keep.refl _ _).setCell _ rfl _
  have hne : av'.ownBlock ≠ some ab := by
    rcases hw with e | e
    · rw [e]; exact h.sep
    · rw [e]; intro e2; have := Option.some.inj e2; omega
  refine ⟨⟨?_, h.bb, ?_, hne⟩, (h2.mono h.ble).trans (((Below.refl B w2).grown hg m2.ble (fun k hk => (m2.row.lt k hk).1)).trans (hke.toBelow h.bb (by have := m2.ble; omega))), fun b hb h1 h3 => (hke.block b (by omega) (by simpa using h1)).trans ((hg.block b (by omega) h3).trans (h2.block b hb)), ?_⟩
  · have h5 : w4.heap[ab]? = some (.cells #[av] 34 (0, 0)) := (hg.block ab hlt (fun e => h.sep e.symm)).trans m2.box
    exact heap_setCell_same w4 ab 0 #[av] 34 av' h5
  · have e1 : ints (xs ++ [x]) = ints xs ++ [.int .i64 x] := by simp [ints]
    rw [e1, List.length_append]
    exact hown.kept hke (Or.inr (by simpa using hne))
  · rcases hw with e | e
    · exact Or.inl e
    · exact Or.inr ⟨_, e, hs2⟩
def FN11 (ab wb : Nat) : Value := .func (.func 11) #[] #[.pointer (some ⟨ab, 0, none⟩), .pointer (some ⟨wb, 0, none⟩)]
/-- What is told of the numbers noted. -/
def ToldA (B ab : Nat) (av : Value) (xs ys : List Int) (w : World) (r : Ending) (w' : World) : Prop := r = .returned (.tuple #[]) ∧ ∃ av', AR B ab av' (xs ++ ys) w' ∧ FA B ab av av' w w'

set_option maxRecDepth 100000 in
set_option maxHeartbeats 3200000 in
theorem walk_step (B0 B f ab wb : Nat) (hB : B0 ≤ B) (l : List Cor)
    (ih : l ≠ [] → ∀ (l : List Cor) (a : Option Addr) (cap : Nat) (av : Value) (xs : List Int) (w : World), Cc B0 w f a l → l.length ≤ cap → xs.length + lamL l ≤ 100000000 → AR B ab av xs w → w.heap[wb]? = some (.cells #[FN11 ab wb] 35 (0, 0)) → Calls Try.prog 11 #[.slice a l.length cap, .pointer (some ⟨ab, 0, none⟩), .pointer (some ⟨wb, 0, none⟩)] w (ToldA B ab av xs (argL l) w))
    (a : Option Addr) (cap : Nat) (av : Value) (xs : List Int) (w : World) (hc : Cc B0 w (f + 1) a l) (hcap : l.length ≤ cap) (hn : xs.length + lamL l ≤ 100000000) (h : AR B ab av xs w) (hwb : w.heap[wb]? = some (.cells #[FN11 ab wb] 35 (0, 0))) :
    Calls Try.prog 11 #[.slice a l.length cap, .pointer (some ⟨ab, 0, none⟩), .pointer (some ⟨wb, 0, none⟩)] w (ToldA B ab av xs (argL l) w) := by
  have hlen := hc.len
  have HL := hidd hc
  have IH := hidd ih
  have HWB := hidd hwb
  have HAP := hidd (h.apart hwb (Or.inl rfl))
  have H0 := hidd h
  have hBw := h.ble
  clear hc ih hwb h
  go_enter Try.func11, Try.ntmps11
  go_wp2_with fail
  go_loopw [8] (fun ix wr => ∃ (j : Nat) (av' : Value), j ≤ l.length ∧ ix = .int .i64 j ∧ Hid (AR B ab av' (xs ++ argL (l.take j)) wr ∧ FA B ab av av' w wr)) (fun ix _ => l.length - (intOf ix).toNat)
  case atStart => exact ⟨0, av, Nat.zero_le _, rfl, by simpa [argL] using H0.out, FA.refl _ _ _ _⟩
  case round =>
    obtain ⟨j, av1, hj, rfl, HR⟩ := hrel
    by_cases hlt : j < l.length
    · obtain ⟨c, hc⟩ : ∃ c, l[j]? = some c := ⟨l[j], List.getElem?_eq_getElem hlt⟩
      have hne : l ≠ [] := by intro e; rw [e] at hlt; simp at hlt
      obtain ⟨g', b, o, hg, ha, hall⟩ := HL.out.at hne
      obtain rfl : f = g' := by omega
      subst ha
      obtain ⟨hbB, qa, qc, ka, kc, nc, ok, hqd, hk⟩ := hall j c hc
      have hcl : ∀ q, wr.cell? ⟨b, q, none⟩ = w.cell? ⟨b, q, none⟩ := fun q => HR.out.2.low.cell (p := ⟨b, q, none⟩) (Nat.lt_of_lt_of_le hbB hB)
      have k0 := (hcl _).trans nc.c0
      have k1 := (hcl _).trans nc.c1
      have k2 := (hcl _).trans nc.c2
      have k3 := (hcl _).trans nc.c3
      have k4 := (hcl _).trans nc.c4
      have k5 := (hcl _).trans nc.c5
      have k6 := (hcl _).trans nc.c6
      have k7 := (hcl _).trans nc.c7
      have k8 := (hcl _).trans nc.c8
      have k9 := (hcl _).trans nc.c9
      have k10 := (hcl _).trans nc.c10
      have k11 := (hcl _).trans nc.c11
      have b1 := lamL_more hc
      have t1 := lamL_take l (j + 1)
      have b2 := lamC_eq c
      have ga := argL_more hc
      have gc := argC_eq c
      have gl := argL_len (l.take j)
      have ba : Below wr.heap.size wr (wr.alloc (.cells #[.int .i64 c.kind, .int .i64 c.index, .int .i64 c.n, .string c.lib, .string c.own, .int .i64 c.quote.kind, .int .i64 c.quote.n, .string c.quote.name, .int .i64 c.quote.stamp, .int .i64 c.quote.lib, .slice qa c.quote.kids.length qc, .slice ka c.kids.length kc] 40)) := (Below.refl _ _).alloc (Nat.le_refl _) _
      have har := HR.out.1.below ba
      have hfa := HR.out.2.trans (FA.of_below ba HR.out.1.ble)
      have hkl := hk
      have hkc : c.kids.length ≤ kc := ok.2.2.2.2
      have HCC := hidd hkl
      have hw2 := (hfa.keep wb (Array.getElem?_eq_some_iff.1 HWB.out).1 HAP.out.1 HAP.out.2).trans HWB.out
      have hxl : (xs ++ argL (l.take j)).length = xs.length + lamL (l.take j) := by rw [List.length_append, gl]
      have qN := World.alloc_heap_new wr (.cells #[.int .i64 c.kind, .int .i64 c.index, .int .i64 c.n, .string c.lib, .string c.own, .int .i64 c.quote.kind, .int .i64 c.quote.n, .string c.quote.name, .int .i64 c.quote.stamp, .int .i64 c.quote.lib, .slice qa c.quote.kids.length qc, .slice ka c.kids.length kc] 40)
      have HCB := hidd (har.apart40 qN)
      have q0 : (wr.alloc (.cells #[.int .i64 c.kind, .int .i64 c.index, .int .i64 c.n, .string c.lib, .string c.own, .int .i64 c.quote.kind, .int .i64 c.quote.n, .string c.quote.name, .int .i64 c.quote.stamp, .int .i64 c.quote.lib, .slice qa c.quote.kids.length qc, .slice ka c.kids.length kc] 40)).cell? ⟨wr.heap.size, 0, none⟩ = some (.int .i64 c.kind) := (cellOf qN).trans rfl
      have q1 : (wr.alloc (.cells #[.int .i64 c.kind, .int .i64 c.index, .int .i64 c.n, .string c.lib, .string c.own, .int .i64 c.quote.kind, .int .i64 c.quote.n, .string c.quote.name, .int .i64 c.quote.stamp, .int .i64 c.quote.lib, .slice qa c.quote.kids.length qc, .slice ka c.kids.length kc] 40)).cell? ⟨wr.heap.size, 1, none⟩ = some (.int .i64 c.index) := (cellOf qN).trans rfl
      have q11 : (wr.alloc (.cells #[.int .i64 c.kind, .int .i64 c.index, .int .i64 c.n, .string c.lib, .string c.own, .int .i64 c.quote.kind, .int .i64 c.quote.n, .string c.quote.name, .int .i64 c.quote.stamp, .int .i64 c.quote.lib, .slice qa c.quote.kids.length qc, .slice ka c.kids.length kc] 40)).cell? ⟨wr.heap.size, 11, none⟩ = some (.slice ka c.kids.length kc) := (cellOf qN).trans rfl
      have QN := hidd qN
      clear qN
      obtain ⟨L1, hL1⟩ : ∃ L, L = xs ++ argL (l.take j) := ⟨_, rfl⟩
      rw [← hL1] at har hxl
      have HAR := hidd har
      have HFA := hidd hfa
      have HW2 := hidd hw2
      have hcl1 : ∀ W, Below B w W → Cc B0 W f ka c.kids := fun W hb => HCC.out.below (hb.mono hB)
      have HCL := hidd hcl1
      by_cases h8 : c.kind = 8
      · rw [if_pos h8] at b2 gc
        have h8' : (c.kind == 8) = true := by simpa using h8
        have GE : Hid (xs ++ argL (l.take (j + 1)) = L1 ++ [c.index] ++ argL c.kids) := by show _ = _; rw [ga, gc, hL1]; simp
        have hbd : L1.length + 1 + lamL c.kids ≤ 100000000 := by omega
        clear nc ok hqd hk hall hc hcl b1 b2 t1 ga gc gl ba har hfa hkl hw2 hxl hL1 hcl1 h8 HCC
        go_upto_region 4 with fail
        generalize (wr.alloc (.cells #[.int .i64 c.kind, .int .i64 c.index, .int .i64 c.n, .string c.lib, .string c.own, .int .i64 c.quote.kind, .int .i64 c.quote.n, .string c.quote.name, .int .i64 c.quote.stamp, .int .i64 c.quote.lib, .slice qa c.quote.kids.length qc, .slice ka c.kids.length kc] 40)) = WA at HAR HFA HW2 HCB q0 q1 q11 QN ⊢
        clear k0 k1 k2 k3 k4 k5 k6 k7 k8 k9 k10 k11
        obtain ⟨sa, sc, rfl, hsc⟩ := HAR.out.slice
        have ab0 : WA.cell? ⟨ab, 0, none⟩ = some (.slice sa L1.length sc) := (cellOf HAR.out.box).trans rfl
        have b2 : Below WA.heap.size WA (WA.alloc (.cells #[.int .i64 c.index] 3)) := (Below.refl _ _).alloc (Nat.le_refl _) _
        have ARA := hidd (HAR.out.below b2)
        have BB2 := hidd b2
        obtain ⟨i0, hinf, hz0, hz1, hz2⟩ := info_parts infoInt
        clear b2
        go_wp2_with (at_builtin; refine wpList_append_where rfl _ _ 34 rfl B 3 i0 _ 1 8 Try.underlying34 hinf hz0 hz1 hz2 rfl (by decide) (.slice sa L1.length sc) L1.length (ints L1) rfl (by exact ARA.out.row) ⟨WA.heap.size, 0, none⟩ 1 1 [.int .i64 c.index] rfl rfl ?c1 ?c2 (by decide) ?c3 ?c4 ?c5 ?_)
        case c2 => rfl
        case c3 => unfold maxLen; omega
        case c4 => omega
        case c5 => simpa using ARA.out.ble
        intro av2 w4 hown4 hg4 hw4
        obtain ⟨hp1, hp2⟩ := HAR.out.push BB2.out c.index hown4 hg4 (by simpa using hw4)
        obtain ⟨sa2, sc2, hsl2, _⟩ := hp1.slice
        rw [List.length_append, List.length_singleton] at hsl2
        subst hsl2
        have b4 : w4.heap[ab]? = some (.cells #[.slice sa L1.length sc] 34 (0, 0)) := (hg4.block ab ARA.out.lt (fun e => HAR.out.sep e.symm)).trans ARA.out.box
        have n4 : w4.cell? ⟨ab, 0, none⟩ = some (.slice sa L1.length sc) := (cellOf b4).trans rfl
        have z4 : w4.frozen? ⟨ab, 0, none⟩ = false := by simp [World.frozen?, b4]
        have P1 := hidd hp1
        have P2 := hidd hp2
        clear hp1 hp2 hown4 hg4 hw4 b4 ARA BB2 ab0 q0 q1 q11
        go_upto_region 5 with fail
        generalize w4.setCell ⟨ab, 0, none⟩ (.slice sa2 (L1.length + 1) sc2) = W5 at P1 P2 ⊢
        have QN5 := hidd ((P2.out.keep _ (Array.getElem?_eq_some_iff.1 QN.out).1 HCB.out.1 HCB.out.2).trans QN.out)
        have WB5 := hidd ((P2.out.keep _ (Array.getElem?_eq_some_iff.1 HW2.out).1 (HAR.out.apart HW2.out (Or.inl rfl)).1 (HAR.out.apart HW2.out (Or.inl rfl)).2).trans HW2.out)
        have q11 : W5.cell? ⟨wr.heap.size, 11, none⟩ = some (.slice ka c.kids.length kc) := (cellOf QN5.out).trans rfl
        have wf : W5.cell? ⟨wb, 0, none⟩ = some (FN11 ab wb) := (cellOf WB5.out).trans rfl
        have F5 := hidd (HFA.out.trans P2.out)
        have CALL := hidd (IH.out hne c.kids ka kc _ (L1 ++ [c.index]) W5 (HCL.out W5 F5.out.low) hkc (by rw [List.length_append, List.length_singleton]; omega) P1.out WB5.out)
        unfold FN11 at wf
        clear n4 z4 QN
        go_wp2_with fail
        refine CALL.out.mono ?_
        rintro e w6 ⟨rfl, av6, ar6, fa6⟩
        have HE : Hid (AR B ab av6 (xs ++ argL (l.take (j + 1))) w6 ∧ FA B ab av av6 w w6) := by
          show _ ∧ _
          rw [GE.out]
          exact ⟨ar6, F5.out.trans fa6⟩
        clear ar6 fa6 CALL q11 wf
        go_wp2_with fail
        go_roundw
        case rel => exact ⟨j + 1, av6, by omega, by go_num, HE.out⟩
        case measure => simp [intOf]; omega
      · rw [if_neg h8] at b2 gc
        have h8' : (c.kind == 8) = false := by simpa using h8
        have GE : Hid (xs ++ argL (l.take (j + 1)) = L1 ++ argL c.kids) := by show _ = _; rw [ga, gc, hL1]; simp
        have hbd : L1.length + lamL c.kids ≤ 100000000 := by omega
        clear nc ok hqd hk hall hc hcl b1 b2 t1 ga gc gl ba har hfa hkl hw2 hxl hL1 hcl1 h8 HCC
        go_upto_region 5 with fail
        generalize (wr.alloc (.cells #[.int .i64 c.kind, .int .i64 c.index, .int .i64 c.n, .string c.lib, .string c.own, .int .i64 c.quote.kind, .int .i64 c.quote.n, .string c.quote.name, .int .i64 c.quote.stamp, .int .i64 c.quote.lib, .slice qa c.quote.kids.length qc, .slice ka c.kids.length kc] 40)) = WA at HAR HFA HW2 HCB q0 q1 q11 QN ⊢
        clear k0 k1 k2 k3 k4 k5 k6 k7 k8 k9 k10 k11
        have wf : WA.cell? ⟨wb, 0, none⟩ = some (FN11 ab wb) := (cellOf HW2.out).trans rfl
        have CALL := hidd (IH.out hne c.kids ka kc _ L1 WA (HCL.out WA HFA.out.low) hkc (by omega) HAR.out HW2.out)
        unfold FN11 at wf
        go_wp2_with fail
        refine CALL.out.mono ?_
        rintro e w6 ⟨rfl, av6, ar6, fa6⟩
        have HE : Hid (AR B ab av6 (xs ++ argL (l.take (j + 1))) w6 ∧ FA B ab av av6 w w6) := by
          show _ ∧ _
          rw [GE.out]
          exact ⟨ar6, HFA.out.trans fa6⟩
        clear ar6 fa6 CALL q0 q1 q11 wf
        go_wp2_with fail
        go_roundw
        case rel => exact ⟨j + 1, av6, by omega, by go_num, HE.out⟩
        case measure => simp [intOf]; omega
    · obtain rfl : j = l.length := by omega
      rw [List.take_length] at HR
      clear IH HL
      go_wp2_with fail
      go_end0
      exact ⟨rfl, av1, HR.out.1, HR.out.2⟩
theorem walk_any (B0 B ab wb : Nat) (hB : B0 ≤ B) : ∀ (f : Nat) (l : List Cor) (a : Option Addr) (cap : Nat) (av : Value) (xs : List Int) (w : World), Cc B0 w f a l → l.length ≤ cap → xs.length + lamL l ≤ 100000000 → AR B ab av xs w → w.heap[wb]? = some (.cells #[FN11 ab wb] 35 (0, 0)) → Calls Try.prog 11 #[.slice a l.length cap, .pointer (some ⟨ab, 0, none⟩), .pointer (some ⟨wb, 0, none⟩)] w (ToldA B ab av xs (argL l) w)
  | 0, l, a, cap, av, xs, w, h, h1, h2, h3, h4 => by
    have e : l = [] := h
    subst e
    exact walk_step B0 B 0 ab wb hB [] (fun h => absurd rfl h) a cap av xs w ⟨Nat.zero_le _, Or.inl rfl⟩ h1 h2 h3 h4
  | f + 1, l, a, cap, av, xs, w, h, h1, h2, h3, h4 => walk_step B0 B f ab wb hB l (fun _ => walk_any B0 B ab wb hB f) a cap av xs w h h1 h2 h3 h4
end Go.Proofs.Ytbbmdhkbndgdkaa
