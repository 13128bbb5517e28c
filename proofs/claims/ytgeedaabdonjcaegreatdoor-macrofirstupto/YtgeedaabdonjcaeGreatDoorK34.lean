/- Package rule set: Use, rule by rule. -/
import Derived.Test.YtgeedaabdonjcaeGreatDoorK33
namespace Go.Proofs.YtgeedaabdonjcaeGreatDoor
set_option linter.unusedVariables false
set_option linter.unusedSimpArgs false
open Go.RowKit Go.Maps Go.WideMaps

theorem useRules_at {lits : List ByteArray} {ks : List Dat} {sp lbb : Int} {l : List (Dat × Dat)} {j : Nat} {p t : Dat} (h : l[j]? = some (p, t)) :
    useRules lits ks sp lbb (l.drop j) = ((fitL lits p.kids.tail ks (fun _ => [])).map fun m => grownM (vlist lits p.kids.tail true 1 (fun _ => 0)).2 m t sp lbb).getD (useRules lits ks sp lbb (l.drop (j + 1))) := by
  obtain ⟨hi, e⟩ := List.getElem?_eq_some_iff.1 h
  rw [List.drop_eq_getElem_cons hi, e]
  rfl

/-- What a round of Use has made: a rule, what it meets, a fit. -/
structure RB (wr : World) (lb : Nat) (T : Array Value) (W : World) : Prop where
  old : Below wr.heap.size wr W
  b0 : W.heap[wr.heap.size]? = some (.cells T 43 (0, 0))
  b2 : W.heap[wr.heap.size + 1 + 1]? = some (.cells #[.map (some lb), .map (some (wr.heap.size + 1))] 71 (0, 0))
section
variable {wr W W' : World} {lb : Nat} {T : Array Value}
theorem RB.size (h : RB wr lb T W) : wr.heap.size + 1 + 1 < W.heap.size := (Array.getElem?_eq_some_iff.1 h.b2).1
theorem RB.start (wr : World) (lb : Nat) (T : Array Value) : RB wr lb T (((wr.alloc (.cells T 43)).alloc (.map #[] 0)).alloc (.cells #[.map (some lb), .map (some (wr.heap.size + 1))] 71)) := by
  have a0 := fun (u : World) (o : Obj) (k : Nat) (h : k < u.heap.size) => Below.heap_alloc u o k h
  have n0 := fun (u : World) (o : Obj) => World.alloc_heap_new u o
  refine ⟨(((Below.refl _ _).alloc (Nat.le_refl _) _).alloc (by simp only [World.size_alloc]; omega) _).alloc (by simp only [World.size_alloc]; omega) _, ?_, ?_⟩
  · rw [a0 _ _ _ (by simp only [World.size_alloc]; omega), a0 _ _ _ (by simp only [World.size_alloc]; omega)]
    exact n0 wr _
  · have := n0 ((wr.alloc (.cells T 43)).alloc (.map #[] 0)) (.cells #[.map (some lb), .map (some (wr.heap.size + 1))] 71)
    rwa [World.size_alloc, World.size_alloc] at this
theorem RB.below (h : RB wr lb T W) (hb : Below W.heap.size W W') : RB wr lb T W' := by
  have := h.size
  exact ⟨h.old.trans (hb.mono h.old.size), (hb.block _ (by omega)).trans h.b0, (hb.block _ (by omega)).trans h.b2⟩
theorem RB.fr {o' : Nat → Prop} (h : RB wr lb T W) (hf : Fr (wr.heap.size + 1) (fun _ => False) o' W W') : RB wr lb T W' := by
  have := h.size
  have hb := hf.below (B := wr.heap.size) (fun _ h => h.elim) (by omega) (by omega)
  exact ⟨h.old.trans hb, (hf.same _ (by omega) (by omega) (fun h => h)).trans h.b0, (hf.same _ (by omega) (by omega) (fun h => h)).trans h.b2⟩
theorem RB.cell0 (h : RB wr lb T W) (q : Nat) : W.cell? ⟨wr.heap.size, q, none⟩ = T[q]? := by simp [World.cell?, h.b0]
theorem RB.cell2 (h : RB wr lb T W) (q : Nat) : W.cell? ⟨wr.heap.size + 1 + 1, q, none⟩ = (#[.map (some lb), .map (some (wr.heap.size + 1))] : Array Value)[q]? := by simp [World.cell?, h.b2]
end

set_option maxHeartbeats 400000 in
theorem tail_slice {B gd b1 o1 fc : Nat} {h0 : Dat} {ks : List Dat} {wr : World} (hfl : ks.length + 1 ≤ 9223372036854775807) (hfc : ks.length + 1 ≤ fc) (hl : LC B wr (gd + 1) (some ⟨b1, o1, none⟩) (h0 :: ks)) :
    ∃ a6 c6, (∀ u : World, (Instr.slice 26 (.slice (some ⟨b1, o1, none⟩) (ks.length + 1) fc) (some (.int .i64 1)) none none).run Tryz.prog u = .ok (.slice a6 ks.length c6) u) ∧ LC B wr (gd + 1) a6 ks ∧ ks.length ≤ c6 := by
  by_cases h1 : fc = 1
  · subst h1
    have h0 : ks = [] := List.length_eq_zero_iff.1 (by omega)
    subst h0
    refine ⟨some ⟨b1, o1, none⟩, 0, fun u => ?_, LC.nil _ _ _ _, by simp⟩
    go_simp
  · refine ⟨some ⟨b1, o1 + 6, none⟩, fc - 1, fun u => ?_, ?_, by omega⟩
    · go_simp
      intro h
      omega
    · by_cases h0 : ks = []
      · subst h0
        exact LC.nil _ _ _ _
      · exact hl.drop 1 (by simp; exact List.length_pos_iff.2 h0)

set_option maxRecDepth 100000 in
set_option maxHeartbeats 6400000 in
theorem Use_rules (B g gd : Nat) (lits : List ByteArray) (rules : List (Dat × Dat)) (la ra : Option Addr) (lc rc : Nat) (h0 : Dat) (fk : Int) (fn : Int) (fnm : ByteArray) (fst flb : Int) (ks : List Dat) (fa : Option Addr) (fc : Nat) (sp lbb : Int) (w : World) (y2 : Int)
    (hs : Strs B w la lits) (hr : Rls B w g ra rules) (hf : LC B w (gd + 1) fa (h0 :: ks)) (hfc : (h0 :: ks).length ≤ fc) (hB : B ≤ w.heap.size) (hl20 : lits.length ≤ 20) (hlo : lits.all litOk = true) (hrr : ∀ p t, (p, t) ∈ rules → wrongRule lits p t = 0 ∧ smD t) (hsz : sizeL ks ≤ 2000) (hsm : ∀ d ∈ ks, smD d)
    (hw : ∀ W, Below w.heap.size w W → Calls Tryz.prog 14 #[mv lits rules la ra lc rc] W fun e w' => e = .returned (fv (0, y2)) ∧ Below W.heap.size W w')
    (hm : ∀ W, Below w.heap.size w W → Calls Tryz.prog 30 #[dv ⟨4, fn, fnm, fst, flb, h0 :: ks⟩ fa fc] W fun e w' => e = .returned (.bool false) ∧ Below W.heap.size W w') :
    Calls Tryz.prog 11 #[mv lits rules la ra lc rc, dv ⟨4, fn, fnm, fst, flb, h0 :: ks⟩ fa fc, .int .i64 sp, .int .i64 lbb] w (ToldU (useRules lits ks sp lbb rules) w) := by
  have WR := hidd hw
  have MU := hidd hm
  have hll := hs.1
  have hrl := hr.1
  have hfl := hf.len
  simp only [List.length_cons] at hfc hfl
  have HH : Hid (Strs B w la lits ∧ Rls B w g ra rules ∧ LC B w (gd + 1) fa (h0 :: ks) ∧ (∀ p t, (p, t) ∈ rules → wrongRule lits p t = 0 ∧ smD t) ∧ (∀ d ∈ ks, smD d)) := ⟨hs, hr, hf, hrr, hsm⟩
  clear hw hm hs hr hrr hsm
  obtain ⟨b1, o1, hfa⟩ : ∃ b1 o1, fa = some ⟨b1, o1, none⟩ := by
    obtain ⟨g', b, o, hg, ha, hb, hall⟩ := hf.at (by simp)
    exact ⟨b, o, ha⟩
  subst hfa
  clear hf
  have LO : Hid (∀ W, Below w.heap.size w W → Calls Tryz.prog 31 #[.slice la lits.length lc] W (ToldL lits W)) := fun W hb => literalsOf_any B lits la lc W (HH.out.1.stay (fun k hk => hb.block k (by omega)) (Nat.le_refl _)) (Nat.le_trans hB hb.size) hl20
  have H0 : Hid (UW w #[.slice la lits.length lc, .slice ra rules.length rc] #[.int .i64 4, .int .i64 fn, .string fnm, .int .i64 fst, .int .i64 flb, .slice (some ⟨b1, o1, none⟩) (ks.length + 1) fc] _) := UW.start w _ _
  unfold z6 at H0
  unfold mv fv at WR
  unfold dv at MU
  unfold mv dv
  simp only [List.length_cons] at MU ⊢
  go_enter Tryz.func11, Tryz.ntmps11
  go_wp2_with fail
  refine (WR.out _ H0.out.old).mono ?_
  rintro e w1 ⟨rfl, hb1⟩
  have H1 := hidd (H0.out.below hb1)
  have H2 := hidd (H1.out.below ((Below.refl _ _).alloc (Nat.le_refl _) (.cells #[.int .i64 0, .int .i64 y2] 38)))
  have c0 := H2.out.cell1 0
  have c1 := H2.out.cell1 1
  have c2 := H2.out.cell1 2
  have c3 := H2.out.cell1 3
  have c4 := H2.out.cell1 4
  have c5 := H2.out.cell1 5
  simp at c0 c1 c2 c3 c4 c5
  clear hb1 WR H0
  go_wp2_with fail
  refine (MU.out _ H2.out.old).mono ?_
  rintro e w2 ⟨rfl, hb2⟩
  have H3 := hidd (H2.out.below hb2)
  clear hb2 MU c0 c1 c2 c3 c4 c5
  have c0 := H3.out.cell1 0
  have c5 := H3.out.cell1 5
  have m0 := H3.out.cell0 0
  simp at c0 c5 m0
  go_wp2_with fail
  refine (LO.out _ H3.out.old).mono ?_
  rintro e w3 ⟨hb3, he⟩
  rw [hlo, if_pos rfl] at he
  obtain ⟨rfl, hlit⟩ := he
  have H4 : Hid (UW w #[.slice la lits.length lc, .slice ra rules.length rc] #[.int .i64 4, .int .i64 fn, .string fnm, .int .i64 fst, .int .i64 flb, .slice (some ⟨b1, o1, none⟩) (ks.length + 1) fc] w3 ∧ LitM w2.heap.size lits w3 ∧ w.heap.size + 1 + 1 + 1 ≤ w2.heap.size) := ⟨H3.out.below hb3, hlit, H3.out.size⟩
  clear c0 c5 m0 hb3 hlit LO H1 H2 H3
  generalize w2.heap.size = lb at H4
  have m1 := H4.out.1.cell0 1
  simp at m1
  go_wp2_with fail
  go_loopw [49] (fun i wr => ∃ j : Nat, j ≤ rules.length ∧ i = .int .i64 j ∧ Hid (UW w #[.slice la lits.length lc, .slice ra rules.length rc] #[.int .i64 4, .int .i64 fn, .string fnm, .int .i64 fst, .int .i64 flb, .slice (some ⟨b1, o1, none⟩) (ks.length + 1) fc] wr ∧ LitM lb lits wr ∧ useRules lits ks sp lbb rules = useRules lits ks sp lbb (rules.drop j))) (fun i _ => rules.length - (intOf i).toNat)
  case atStart => exact ⟨0, Nat.zero_le _, rfl, H4.out.1, H4.out.2.1, rfl⟩
  case round =>
    obtain ⟨j, hj, rfl, HR⟩ := hrel
    clear m1
    by_cases hlt : j < rules.length
    · obtain ⟨b, o, p, t, pa, ta, pc, tc, rfl, hbB, hd, hc, h1, h2, h3, h4, h5, h6⟩ := HH.out.2.1.at hlt
      obtain ⟨hwr, hst⟩ := HH.out.2.2.2.1 p t (List.mem_of_getElem? hd)
      obtain ⟨ph, r, hpk, hv0, hrt, hsr, hstz, hnr⟩ := rule_parts hwr
      have HE : Hid (useRules lits ks sp lbb rules = ((fitL lits r ks (fun _ => [])).map fun m => grownM (vlist lits r true 1 (fun _ => 0)).2 m t sp lbb).getD (useRules lits ks sp lbb (rules.drop (j + 1)))) := by
        have := HR.out.2.2.trans (useRules_at hd)
        rw [hpk] at this
        exact this
      have hO : Old B w wr := fun k hk => HR.out.1.old.block k (by omega)
      have hws : w.heap.size ≤ wr.heap.size := HR.out.1.old.size
      have CE : ∀ q, q < 12 → wr.cell? ⟨b, o + j * 12 + q, none⟩ = (two p t pa ta pc tc)[q]? := fun q hq => (hO.cell hbB _).trans (hc q hq)
      have k0 := CE 0 (by omega)
      have k1 := CE 1 (by omega)
      have k2 := CE 2 (by omega)
      have k3 := CE 3 (by omega)
      have k4 := CE 4 (by omega)
      have k5 := CE 5 (by omega)
      have k6 := CE 6 (by omega)
      have k7 := CE 7 (by omega)
      have k8 := CE 8 (by omega)
      have k9 := CE 9 (by omega)
      have k10 := CE 10 (by omega)
      have k11 := CE 11 (by omega)
      simp [two] at k0 k1 k2 k3 k4 k5 k6 k7 k8 k9 k10 k11
      have RU : Hid (LC B wr (g + 1) pa p.kids ∧ LC B wr (g + 1) ta t.kids ∧ LC B wr (gd + 1) (some ⟨b1, o1, none⟩) (h0 :: ks) ∧ p.kids.length ≤ pc ∧ t.name.size ≤ maxLen ∧ smD t) := ⟨h5.stay hO, h6.stay hO, HH.out.2.2.1.stay hO, h3, h2, hst⟩
      have PK : Hid (p.kids = ph :: r ∧ (vlist lits r true 1 (fun _ => 0)).1 = 0 ∧ rightD (vlist lits r true 1 (fun _ => 0)).2 t false = true ∧ sizeL r ≤ 2000 ∧ sizeD t ≤ 2000 ∧ hasNamesL r = true) := ⟨hpk, hv0, hrt, hsr, hstz, hnr⟩
      clear hc CE hO hd h1 h2 h3 h4 h5 h6 hpk hv0 hrt hsr hstz hnr hst hwr
      have hmm := @run_makeMap Tryz.prog
      go_wp2_with fail
      have R4 : Hid (RB wr lb #[.int .i64 p.kind, .int .i64 p.n, .string p.name, .int .i64 p.stamp, .int .i64 p.lib, .slice pa p.kids.length pc, .int .i64 t.kind, .int .i64 t.n, .string t.name, .int .i64 t.stamp, .int .i64 t.lib, .slice ta t.kids.length tc] (((wr.alloc (.cells #[.int .i64 p.kind, .int .i64 p.n, .string p.name, .int .i64 p.stamp, .int .i64 p.lib, .slice pa p.kids.length pc, .int .i64 t.kind, .int .i64 t.n, .string t.name, .int .i64 t.stamp, .int .i64 t.lib, .slice ta t.kids.length tc] 43)).alloc (.map #[] 0)).alloc (.cells #[.map (some lb), .map (some (wr.heap.size + 1))] 71)) ∧ UW w #[.slice la lits.length lc, .slice (some ⟨b, o, none⟩) rules.length rc] #[.int .i64 4, .int .i64 fn, .string fnm, .int .i64 fst, .int .i64 flb, .slice (some ⟨b1, o1, none⟩) (ks.length + 1) fc] (((wr.alloc (.cells #[.int .i64 p.kind, .int .i64 p.n, .string p.name, .int .i64 p.stamp, .int .i64 p.lib, .slice pa p.kids.length pc, .int .i64 t.kind, .int .i64 t.n, .string t.name, .int .i64 t.stamp, .int .i64 t.lib, .slice ta t.kids.length tc] 43)).alloc (.map #[] 0)).alloc (.cells #[.map (some lb), .map (some (wr.heap.size + 1))] 71)) ∧ LitM lb lits (((wr.alloc (.cells #[.int .i64 p.kind, .int .i64 p.n, .string p.name, .int .i64 p.stamp, .int .i64 p.lib, .slice pa p.kids.length pc, .int .i64 t.kind, .int .i64 t.n, .string t.name, .int .i64 t.stamp, .int .i64 t.lib, .slice ta t.kids.length tc] 43)).alloc (.map #[] 0)).alloc (.cells #[.map (some lb), .map (some (wr.heap.size + 1))] 71)) ∧ Met (wr.heap.size + 1) B gd 0 (fun _ => []) (fun _ => False) (((wr.alloc (.cells #[.int .i64 p.kind, .int .i64 p.n, .string p.name, .int .i64 p.stamp, .int .i64 p.lib, .slice pa p.kids.length pc, .int .i64 t.kind, .int .i64 t.n, .string t.name, .int .i64 t.stamp, .int .i64 t.lib, .slice ta t.kids.length tc] 43)).alloc (.map #[] 0)).alloc (.cells #[.map (some lb), .map (some (wr.heap.size + 1))] 71))) := by
        have hb := RB.start wr lb #[.int .i64 p.kind, .int .i64 p.n, .string p.name, .int .i64 p.stamp, .int .i64 p.lib, .slice pa p.kids.length pc, .int .i64 t.kind, .int .i64 t.n, .string t.name, .int .i64 t.stamp, .int .i64 t.lib, .slice ta t.kids.length tc]
        refine ⟨hb, HR.out.1.below hb.old, HR.out.2.1.below hb.old, ?_⟩
        have := (Met.made (wr.alloc (.cells #[.int .i64 p.kind, .int .i64 p.n, .string p.name, .int .i64 p.stamp, .int .i64 p.lib, .slice pa p.kids.length pc, .int .i64 t.kind, .int .i64 t.n, .string t.name, .int .i64 t.stamp, .int .i64 t.lib, .slice ta t.kids.length tc] 43)) B gd).below (w' := (((wr.alloc (.cells #[.int .i64 p.kind, .int .i64 p.n, .string p.name, .int .i64 p.stamp, .int .i64 p.lib, .slice pa p.kids.length pc, .int .i64 t.kind, .int .i64 t.n, .string t.name, .int .i64 t.stamp, .int .i64 t.lib, .slice ta t.kids.length tc] 43)).alloc (.map #[] 0)).alloc (.cells #[.map (some lb), .map (some (wr.heap.size + 1))] 71))) (by simp; omega) ((Below.refl _ _).alloc (Nat.le_refl _) _)
        rw [World.size_alloc] at this
        exact this
      clear k0 k1 k2 k3 k4 k5 k6 k7 k8 k9 k10 k11 hmm
      generalize (((wr.alloc (.cells #[.int .i64 p.kind, .int .i64 p.n, .string p.name, .int .i64 p.stamp, .int .i64 p.lib, .slice pa p.kids.length pc, .int .i64 t.kind, .int .i64 t.n, .string t.name, .int .i64 t.stamp, .int .i64 t.lib, .slice ta t.kids.length tc] 43)).alloc (.map #[] 0)).alloc (.cells #[.map (some lb), .map (some (wr.heap.size + 1))] 71)) = W4 at R4
      have PA : Hid (∀ W, Below wr.heap.size wr W → Calls Tryz.prog 33 #[rv p t pa ta pc tc] W fun e w' => Below W.heap.size W w' ∧ ∃ a' cap', e = .returned (.slice a' r.length cap') ∧ LC B W (g + 1) a' r ∧ r.length ≤ cap') := fun W hb =>
        patternOf_any B g p t ph r pa ta pc tc W PK.out.1 (RU.out.1.below (hb.mono (by omega))) RU.out.2.2.2.1
      unfold rv at PA
      obtain ⟨a6, c6, hsl, hks, hdc⟩ : ∃ a6 c6, (∀ u : World, (Instr.slice 26 (.slice (some ⟨b1, o1, none⟩) (ks.length + 1) fc) (some (.int .i64 1)) none none).run Tryz.prog u = .ok (.slice a6 ks.length c6) u) ∧ LC B wr (gd + 1) a6 ks ∧ ks.length ≤ c6 := tail_slice hfl hfc RU.out.2.2.1
      refine wp_region_held_drew (S := fun u => RB wr lb #[.int .i64 p.kind, .int .i64 p.n, .string p.name, .int .i64 p.stamp, .int .i64 p.lib, .slice pa p.kids.length pc, .int .i64 t.kind, .int .i64 t.n, .string t.name, .int .i64 t.stamp, .int .i64 t.lib, .slice ta t.kids.length tc] u ∧ UW w #[.slice la lits.length lc, .slice (some ⟨b, o, none⟩) rules.length rc] #[.int .i64 4, .int .i64 fn, .string fnm, .int .i64 fst, .int .i64 flb, .slice (some ⟨b1, o1, none⟩) (ks.length + 1) fc] u) (by kernel_rfl) ⟨R4.out.1.below (Below.drew (Below.refl _ _)), R4.out.2.1.below (Below.drew (Below.refl _ _))⟩ (fun hS => ?_)
      refine wpAnyH_take (i := 0) (oi := { dst := some 56, op := Op.load 71 (Operand.tmp 15), type := 71, pos := _, after := _, guard := none }) (v := .agg #[.map (some lb), .map (some (wr.heap.size + 1))]) rfl (by kernel_rfl) (by kernel_rfl) (by kernel_rfl) (fun _ _ _ h => h) (Or.inl ⟨by rfl, fun u hu => by (have z0 := hu.1.cell2 0; have z1 := hu.1.cell2 1; simp at z0 z1; go_simp)⟩) hS ?_
      simp only [Act.put, List.setIfInBounds_toArray, List.set_cons_zero, List.set_cons_succ]
      refine wpAnyH_take (i := 1) (oi := { dst := some 57, op := Op.load 43 (Operand.tmp 14), type := 43, pos := _, after := _, guard := none }) (v := .agg #[.int .i64 p.kind, .int .i64 p.n, .string p.name, .int .i64 p.stamp, .int .i64 p.lib, .slice pa p.kids.length pc, .int .i64 t.kind, .int .i64 t.n, .string t.name, .int .i64 t.stamp, .int .i64 t.lib, .slice ta t.kids.length tc]) rfl (by kernel_rfl) (by kernel_rfl) (by kernel_rfl) (fun _ _ _ h => h) (Or.inl ⟨by rfl, fun u hu => by (have z0 := hu.1.cell0 0; have z1 := hu.1.cell0 1; have z2 := hu.1.cell0 2; have z3 := hu.1.cell0 3; have z4 := hu.1.cell0 4; have z5 := hu.1.cell0 5; have z6 := hu.1.cell0 6; have z7 := hu.1.cell0 7; have z8 := hu.1.cell0 8; have z9 := hu.1.cell0 9; have z10 := hu.1.cell0 10; have z11 := hu.1.cell0 11; simp at z0 z1 z2 z3 z4 z5 z6 z7 z8 z9 z10 z11; go_simp)⟩) hS ?_
      simp only [Act.put, List.setIfInBounds_toArray, List.set_cons_zero, List.set_cons_succ]
      refine wpAnyH_take (i := 3) (oi := { dst := some 59, op := Op.fieldAddr 28 (Operand.tmp 5) 5, type := 0, pos := _, after := _, guard := none }) (v := .pointer (some ⟨w.heap.size + 1, 5, none⟩)) rfl (by kernel_rfl) (by kernel_rfl) (by kernel_rfl) (fun _ _ _ h => h) (Or.inl ⟨by rfl, fun u hu => by go_simp⟩) hS ?_
      simp only [Act.put, List.setIfInBounds_toArray, List.set_cons_zero, List.set_cons_succ]
      refine wpAnyH_take (i := 4) (oi := { dst := some 60, op := Op.load 26 (Operand.tmp 59), type := 26, pos := _, after := _, guard := none }) (v := .slice (some ⟨b1, o1, none⟩) (ks.length + 1) fc) rfl (by kernel_rfl) (by kernel_rfl) (by kernel_rfl) (fun _ _ _ h => h) (Or.inl ⟨by rfl, fun u hu => by (have z5 := hu.2.cell1 5; simp at z5; go_simp)⟩) hS ?_
      simp only [Act.put, List.setIfInBounds_toArray, List.set_cons_zero, List.set_cons_succ]
      refine wpAnyH_take (i := 5) (oi := { dst := some 61, op := Op.slice 26 (Operand.tmp 60) (some (Operand.const (Value.int IntKind.i64 1))) none none, type := 26, pos := _, after := _, guard := none }) (v := .slice a6 ks.length c6) rfl (by kernel_rfl) (by kernel_rfl) (by kernel_rfl) (fun _ _ _ h => h) (Or.inl ⟨by rfl, fun u hu => by go_simp⟩) hS ?_
      simp only [Act.put, List.setIfInBounds_toArray, List.set_cons_zero, List.set_cons_succ]
      refine wpAnyH_ready (rs := [2]) (by kernel_rfl) (by simp) (AllReadyH.cons (o := { dst := some 58, op := Op.call { callee := Callee.value (Operand.func 33), args := #[Operand.tmp 57], argTypes := #[43] }, type := 26, pos := _, after := _, guard := none }) rfl (fun K hK => ?_) AllReadyH.nil)
      go_simp
      refine (PA.out _ (Below.drew R4.out.1.old)).mono ?_
      rintro e w5 ⟨hb5, a5, c5, rfl, hlc5, hc5⟩
      have R5 : Hid (RB wr lb #[.int .i64 p.kind, .int .i64 p.n, .string p.name, .int .i64 p.stamp, .int .i64 p.lib, .slice pa p.kids.length pc, .int .i64 t.kind, .int .i64 t.n, .string t.name, .int .i64 t.stamp, .int .i64 t.lib, .slice ta t.kids.length tc] w5 ∧ UW w #[.slice la lits.length lc, .slice (some ⟨b, o, none⟩) rules.length rc] #[.int .i64 4, .int .i64 fn, .string fnm, .int .i64 fst, .int .i64 flb, .slice (some ⟨b1, o1, none⟩) (ks.length + 1) fc] w5 ∧ LitM lb lits w5 ∧ Met (wr.heap.size + 1) B gd 0 (fun _ => []) (fun _ => False) w5 ∧ LC B w5 (g + 1) a5 r ∧ r.length ≤ c5) := by
        have hb : Below W4.heap.size W4 w5 := (Below.drew (Below.refl _ _)).trans hb5
        have hs4 := R4.out.1.old.size
        exact ⟨R4.out.1.below hb, R4.out.2.1.below hb, R4.out.2.2.1.below hb, R4.out.2.2.2.below (by omega) hb, hlc5.below (hb5.mono (by show B ≤ W4.heap.size; omega)), hc5⟩
      clear hb5 hlc5 hc5
      show K _ w5
      refine hK.out _ _ ⟨R5.out.1, R5.out.2.1⟩ (fun hS => ?_)
      clear hK K
      have FI : Hid (Calls Tryz.prog 32 #[fitv lb (wr.heap.size + 1), .slice a5 r.length c5, .slice a6 ks.length c6] w5 (ToldF (wr.heap.size + 1) B gd (0 + sizeL ks) (fun _ => False) (fitL lits r ks (fun _ => [])) w5)) :=
        fitlist_any lits B gd lb (wr.heap.size + 1) (by omega) (by have := HR.out.2.1.lt; omega) g r ks a5 a6 c5 c6 0 _ _ w5 R5.out.2.2.2.2.1 (hks.below (R5.out.1.old.mono (by omega))) R5.out.2.2.2.2.2 hdc (vlist_ok lits r true 1 _ PK.out.2.1) R5.out.2.2.1 R5.out.2.2.2.1 (by omega)
      unfold fitv at FI
      refine wpAnyH_ready (rs := [6]) (by kernel_rfl) (by simp) (AllReadyH.cons (o := { dst := some 62, op := Op.call { callee := Callee.value (Operand.func 32), args := #[Operand.tmp 56, Operand.tmp 58, Operand.tmp 61], argTypes := #[71, 26, 26] }, type := 4, pos := _, after := _, guard := none }) rfl (fun K hK => ?_) AllReadyH.nil)
      go_simp
      refine FI.out.mono ?_
      rintro e w6 ⟨o6, hfr, hmt⟩
      have hs5 := R5.out.1.size
      have hb6 : Below (wr.heap.size + 1) w5 w6 := hfr.below (fun _ h => h.elim) (Nat.le_refl _) (by omega)
      have hlit6 : LitM lb lits w6 := R5.out.2.2.1.kept (hb6.block lb (by have := HR.out.2.1.lt; omega))
      have R6 : Hid (RB wr lb #[.int .i64 p.kind, .int .i64 p.n, .string p.name, .int .i64 p.stamp, .int .i64 p.lib, .slice pa p.kids.length pc, .int .i64 t.kind, .int .i64 t.n, .string t.name, .int .i64 t.stamp, .int .i64 t.lib, .slice ta t.kids.length tc] w6 ∧ UW w #[.slice la lits.length lc, .slice (some ⟨b, o, none⟩) rules.length rc] #[.int .i64 4, .int .i64 fn, .string fnm, .int .i64 fst, .int .i64 flb, .slice (some ⟨b1, o1, none⟩) (ks.length + 1) fc] w6 ∧ LitM lb lits w6) := ⟨R5.out.1.fr hfr, R5.out.2.1.kept (hb6.mono (by have := HR.out.1.size; omega)), hlit6⟩
      clear hlit6 hb6 FI hsl hdc hks
      cases hfit : fitL lits r ks (fun _ => []) with
      | none =>
        rw [hfit] at hmt HE
        simp only at hmt
        subst hmt
        clear hfr
        show K _ w6
        refine hK.out _ _ ⟨R6.out.1, R6.out.2.1⟩ (fun hS => ?_)
        clear hK K hS
        refine wpAnyH_done (by kernel_rfl) ?_ _
        go_wp2_with fail
        go_roundw
        case rel => exact ⟨j + 1, by omega, by go_num, R6.out.2.1, R6.out.2.2, HE.out⟩
        case measure => simp [intOf]; omega
      | some m =>
        rw [hfit] at hmt HE
        simp only at hmt
        obtain ⟨rfl, hmet⟩ := hmt
        have M6 : Hid (Met (wr.heap.size + 1) B gd (0 + sizeL ks) m o6 w6 ∧ Vok (vlist lits r true 1 (fun _ => 0)).2 m ∧ (∀ s, ∀ d ∈ m s, smD d) ∧ ∀ s, (m s).length ≤ 2000) := by
          refine ⟨hmet, rule_vok PK.out.2.1 PK.out.2.2.2.2.2 hfit, fitL_all smD smD_kids lits r ks _ m hfit HH.out.2.2.2.2 (fun t x hx => by cases hx), fun s => ?_⟩
          obtain ⟨f, E, m1, m2, m3, m4, m5, m6, m7⟩ := hmet
          have := m6 s
          have e := congrArg List.length (m2 s)
          rw [List.length_map] at e
          omega
        clear hmet hfr
        show K _ w6
        refine hK.out _ _ ⟨R6.out.1, R6.out.2.1⟩ (fun hS => ?_)
        clear hK K hS
        refine wpAnyH_done (by kernel_rfl) ?_ _
        have z0 := R6.out.1.cell0 0
        have z1 := R6.out.1.cell0 1
        have z2 := R6.out.1.cell0 2
        have z3 := R6.out.1.cell0 3
        have z4 := R6.out.1.cell0 4
        have z5 := R6.out.1.cell0 5
        have z6 := R6.out.1.cell0 6
        have z7 := R6.out.1.cell0 7
        have z8 := R6.out.1.cell0 8
        have z9 := R6.out.1.cell0 9
        have z10 := R6.out.1.cell0 10
        have z11 := R6.out.1.cell0 11
        simp at z0 z1 z2 z3 z4 z5 z6 z7 z8 z9 z10 z11
        go_wp2_with fail
        refine (PA.out _ R6.out.1.old).mono ?_
        rintro e w7 ⟨hb7, a7, c7, rfl, hlc7, hc7⟩
        have hs6 := R6.out.1.old.size
        have hs7 := hb7.size
        have R7 : Hid (RB wr lb #[.int .i64 p.kind, .int .i64 p.n, .string p.name, .int .i64 p.stamp, .int .i64 p.lib, .slice pa p.kids.length pc, .int .i64 t.kind, .int .i64 t.n, .string t.name, .int .i64 t.stamp, .int .i64 t.lib, .slice ta t.kids.length tc] w7 ∧ UW w #[.slice la lits.length lc, .slice (some ⟨b, o, none⟩) rules.length rc] #[.int .i64 4, .int .i64 fn, .string fnm, .int .i64 fst, .int .i64 flb, .slice (some ⟨b1, o1, none⟩) (ks.length + 1) fc] w7 ∧ LitM lb lits w7 ∧ Met (wr.heap.size + 1) B gd (0 + sizeL ks) m o6 w7 ∧ Lies B w7 (g + 1) a7 r) := ⟨R6.out.1.below hb7, R6.out.2.1.below hb7, R6.out.2.2.below hb7, M6.out.1.below (by omega) hb7, (hlc7.below (hb7.mono (by omega))).1⟩
        clear hb7 hlc7 hc7 z0 z1 z2 z3 z4 z5 z6 z7 z8 z9 z10 z11
        have VA : Hid (Calls Tryz.prog 34 #[.map (some lb), .slice a7 r.length c7] w7 fun e w' => e = .returned (.tuple #[.map (some w7.heap.size), .int .i64 (vlist lits r true 1 (fun _ => 0)).1]) ∧ Below w7.heap.size w7 w' ∧ ((vlist lits r true 1 (fun _ => 0)).1 = 0 → MapN w7.heap.size (sizeL r) (vlist lits r true 1 (fun _ => 0)).2 w')) :=
          variablesOf_any lits B (g + 1) lb r a7 c7 w7 R7.out.2.2.2.2 (by omega) R7.out.2.2.1 PK.out.2.2.2.1
        rw [PK.out.2.1] at VA
        go_wp2_with fail
        refine VA.out.mono ?_
        rintro e w8 ⟨rfl, hb8, hmap8⟩
        have hs8 := hb8.size
        have R8 : Hid (RB wr lb #[.int .i64 p.kind, .int .i64 p.n, .string p.name, .int .i64 p.stamp, .int .i64 p.lib, .slice pa p.kids.length pc, .int .i64 t.kind, .int .i64 t.n, .string t.name, .int .i64 t.stamp, .int .i64 t.lib, .slice ta t.kids.length tc] w8 ∧ UW w #[.slice la lits.length lc, .slice (some ⟨b, o, none⟩) rules.length rc] #[.int .i64 4, .int .i64 fn, .string fnm, .int .i64 fst, .int .i64 flb, .slice (some ⟨b1, o1, none⟩) (ks.length + 1) fc] w8 ∧ Met (wr.heap.size + 1) B gd (0 + sizeL ks) m o6 w8 ∧ MapN w7.heap.size (sizeL r) (vlist lits r true 1 (fun _ => 0)).2 w8) := ⟨R7.out.1.below hb8, R7.out.2.1.below hb8, R7.out.2.2.2.1.below (by omega) hb8, hmap8 trivial⟩
        clear hb8 hmap8 VA
        have z1 := R8.out.1.cell2 1
        simp at z1
        have G9 : Hid (Gst B gd w8.heap.size w7.heap.size (wr.heap.size + 1) (sizeL r) (0 + sizeL ks) sp lbb (vlist lits r true 1 (fun _ => 0)).2 m (w8.alloc (.cells #[.int .i64 0, .map (some w7.heap.size), .map (some (wr.heap.size + 1)), .int .i64 sp, .int .i64 lbb] 80)) ∧ Ctr w8.heap.size 0 (w8.alloc (.cells #[.int .i64 0, .map (some w7.heap.size), .map (some (wr.heap.size + 1)), .int .i64 sp, .int .i64 lbb] 80)) ∧ RB wr lb #[.int .i64 p.kind, .int .i64 p.n, .string p.name, .int .i64 p.stamp, .int .i64 p.lib, .slice pa p.kids.length pc, .int .i64 t.kind, .int .i64 t.n, .string t.name, .int .i64 t.stamp, .int .i64 t.lib, .slice ta t.kids.length tc] (w8.alloc (.cells #[.int .i64 0, .map (some w7.heap.size), .map (some (wr.heap.size + 1)), .int .i64 sp, .int .i64 lbb] 80)) ∧ UW w #[.slice la lits.length lc, .slice (some ⟨b, o, none⟩) rules.length rc] #[.int .i64 4, .int .i64 fn, .string fnm, .int .i64 fst, .int .i64 flb, .slice (some ⟨b1, o1, none⟩) (ks.length + 1) fc] (w8.alloc (.cells #[.int .i64 0, .map (some w7.heap.size), .map (some (wr.heap.size + 1)), .int .i64 sp, .int .i64 lbb] 80)) ∧ Lies B (w8.alloc (.cells #[.int .i64 0, .map (some w7.heap.size), .map (some (wr.heap.size + 1)), .int .i64 sp, .int .i64 lbb] 80)) (g + 1) ta t.kids) := by
          have hb : Below w8.heap.size w8 (w8.alloc (.cells #[.int .i64 0, .map (some w7.heap.size), .map (some (wr.heap.size + 1)), .int .i64 sp, .int .i64 lbb] 80)) := (Below.refl _ _).alloc (Nat.le_refl _) _
          have hq : ∀ q, (w8.alloc (.cells #[.int .i64 0, .map (some w7.heap.size), .map (some (wr.heap.size + 1)), .int .i64 sp, .int .i64 lbb] 80)).cell? ⟨w8.heap.size, q, none⟩ = (#[.int .i64 0, .map (some w7.heap.size), .map (some (wr.heap.size + 1)), .int .i64 sp, .int .i64 lbb] : Array Value)[q]? := fun q => World.cell?_alloc_mark w8 _ 80 (0, 0) q
          have hl8 := R8.out.2.2.2.lt
          refine ⟨⟨⟨by simp, hq 1, hq 2, hq 3, hq 4⟩, R8.out.2.2.2.below hb, ⟨o6, R8.out.2.2.1.below (by omega) hb, fun h => ?_⟩, M6.out.2.2.2, M6.out.2.2.1, by omega, by have := R8.out.1.size; omega, by omega⟩, ⟨by simp, hq 0, by go_simp⟩, R8.out.1.below hb, R8.out.2.1.below hb, (RU.out.2.1.below ((R8.out.1.old.trans (hb.mono (by omega))).mono (by omega))).1⟩
          have := (R8.out.2.2.1.own h).2
          omega
        have y6 : (w8.alloc (.cells #[.int .i64 0, .map (some w7.heap.size), .map (some (wr.heap.size + 1)), .int .i64 sp, .int .i64 lbb] 80)).cell? ⟨wr.heap.size, 6, none⟩ = some (.int .i64 t.kind) := G9.out.2.2.1.cell0 6
        have y7 : (w8.alloc (.cells #[.int .i64 0, .map (some w7.heap.size), .map (some (wr.heap.size + 1)), .int .i64 sp, .int .i64 lbb] 80)).cell? ⟨wr.heap.size, 7, none⟩ = some (.int .i64 t.n) := G9.out.2.2.1.cell0 7
        have y8 : (w8.alloc (.cells #[.int .i64 0, .map (some w7.heap.size), .map (some (wr.heap.size + 1)), .int .i64 sp, .int .i64 lbb] 80)).cell? ⟨wr.heap.size, 8, none⟩ = some (.string t.name) := G9.out.2.2.1.cell0 8
        have y9 : (w8.alloc (.cells #[.int .i64 0, .map (some w7.heap.size), .map (some (wr.heap.size + 1)), .int .i64 sp, .int .i64 lbb] 80)).cell? ⟨wr.heap.size, 9, none⟩ = some (.int .i64 t.stamp) := G9.out.2.2.1.cell0 9
        have y10 : (w8.alloc (.cells #[.int .i64 0, .map (some w7.heap.size), .map (some (wr.heap.size + 1)), .int .i64 sp, .int .i64 lbb] 80)).cell? ⟨wr.heap.size, 10, none⟩ = some (.int .i64 t.lib) := G9.out.2.2.1.cell0 10
        have y11 : (w8.alloc (.cells #[.int .i64 0, .map (some w7.heap.size), .map (some (wr.heap.size + 1)), .int .i64 sp, .int .i64 lbb] 80)).cell? ⟨wr.heap.size, 11, none⟩ = some (.slice ta t.kids.length tc) := G9.out.2.2.1.cell0 11
        have GT : Hid (Calls Tryz.prog 35 #[.pointer (some ⟨w8.heap.size, 0, none⟩), dv t ta tc] (w8.alloc (.cells #[.int .i64 0, .map (some w7.heap.size), .map (some (wr.heap.size + 1)), .int .i64 sp, .int .i64 lbb] 80)) (ToldW w8.heap.size (fitsD (vlist lits r true 1 (fun _ => 0)).2 m t) (!muchB (fillD (vlist lits r true 1 (fun _ => 0)).2 m sp lbb t 0)) (bareD (fillD (vlist lits r true 1 (fun _ => 0)).2 m sp lbb t 0)) (w8.alloc (.cells #[.int .i64 0, .map (some w7.heap.size), .map (some (wr.heap.size + 1)), .int .i64 sp, .int .i64 lbb] 80)))) :=
          grown_told B gd w8.heap.size w7.heap.size (wr.heap.size + 1) (sizeL r) (0 + sizeL ks) sp lbb (vlist lits r true 1 (fun _ => 0)).2 m M6.out.2.1 (g + 1) t ta tc (w8.alloc (.cells #[.int .i64 0, .map (some w7.heap.size), .map (some (wr.heap.size + 1)), .int .i64 sp, .int .i64 lbb] 80)) G9.out.2.2.2.2 RU.out.2.2.2.2.1 RU.out.2.2.2.2.2 PK.out.2.2.2.2.1 PK.out.2.2.1 G9.out.1 G9.out.2.1
        have HE2 : Hid (useRules lits ks sp lbb rules = grownM (vlist lits r true 1 (fun _ => 0)).2 m t sp lbb) := HE.out
        unfold dv at GT
        unfold grownM at HE2
        clear HE
        generalize fitsD (vlist lits r true 1 (fun _ => 0)).2 m t = fb at GT HE2
        generalize muchB (fillD (vlist lits r true 1 (fun _ => 0)).2 m sp lbb t 0) = mb2 at GT HE2
        generalize bareD (fillD (vlist lits r true 1 (fun _ => 0)).2 m sp lbb t 0) = yd at GT HE2
        have hw9 : (w8.alloc (.cells #[.int .i64 0, .map (some w7.heap.size), .map (some (wr.heap.size + 1)), .int .i64 sp, .int .i64 lbb] 80)).heap.size = w8.heap.size + 1 := by simp
        have HW9 := hidd hw9
        clear hw9
        go_wp2_with fail
        refine GT.out.mono ?_
        rintro e w10 ⟨hkp, hif⟩
        have U10 : Hid (UW w #[.slice la lits.length lc, .slice (some ⟨b, o, none⟩) rules.length rc] #[.int .i64 4, .int .i64 fn, .string fnm, .int .i64 fst, .int .i64 flb, .slice (some ⟨b1, o1, none⟩) (ks.length + 1) fc] w10) := G9.out.2.2.2.1.kept ⟨hkp.keep.os, hkp.keep.tape, hkp.keep.output, hkp.keep.size, fun q hq => hkp.keep.block q (by rw [HW9.out]; have := HR.out.1.size; omega) (by have := HR.out.1.size; simp; omega)⟩
        obtain ⟨q, q0, q1, q2, q3, q4, q5, qz⟩ := U10.out.nod2
        simp only at q0 q1 q2 q3 q4 q5
        have hs10 := hkp.keep.size
        rw [HW9.out] at hs10
        clear y6 y7 y8 y9 y10 y11 GT z1
        cases fb with
        | false =>
          rw [if_neg (by simp)] at hif
          rw [if_neg (by simp)] at HE2
          subst hif
          clear hkp
          simp only [dv, zeroD, emS, List.length_nil]
          go_wp2_with fail
          refine bodyPost_ret (ret11 (U10.out.nod2.store ⟨0, 0, ⟨#[]⟩, 0, 0, []⟩ (.slice none 0 0)) rfl rfl) rfl ?_
          rw [HE2.out]
          exact ToldU.zero (U10.out.six _ _ _ _ _ _)
        | true =>
          rw [if_pos rfl] at hif
          rw [if_pos rfl] at HE2
          cases mb2 with
          | true =>
            rw [if_neg (by simp)] at hif
            rw [if_pos rfl] at HE2
            subst hif
            clear hkp
            simp only [dv, zeroD, emS, List.length_nil]
            go_wp2_with fail
            refine bodyPost_ret (ret11 (U10.out.nod2.store ⟨0, 0, ⟨#[]⟩, 0, 0, []⟩ (.slice none 0 0)) rfl rfl) rfl ?_
            rw [HE2.out]
            exact ToldU.zero (U10.out.six _ _ _ _ _ _)
          | false =>
            rw [if_pos (by simp)] at hif
            rw [if_neg (by simp)] at HE2
            obtain ⟨a10, cap10, f10, rfl, hcap10, hdc10⟩ := hif
            have D10 : Hid (yd.kids.length ≤ cap10 ∧ Dc (New (w8.alloc (.cells #[.int .i64 0, .map (some w7.heap.size), .map (some (wr.heap.size + 1)), .int .i64 sp, .int .i64 lbb] 80)) w10) w10 f10 a10 yd.kids) := ⟨hcap10, hdc10⟩
            clear hkp hcap10 hdc10
            unfold dv
            go_wp2_with fail
            refine bodyPost_ret (ret11 (U10.out.nod2.store yd (.slice a10 yd.kids.length cap10)) rfl rfl) rfl ?_
            rw [HE2.out]
            refine ⟨U10.out.six _ _ _ _ _ _, a10, cap10, f10, rfl, D10.out.1, ?_⟩
            have hh := six_heap w10 (w.heap.size + 1 + 1) (.int .i64 yd.kind) (.int .i64 yd.n) (.string yd.name) (.int .i64 yd.stamp) (.int .i64 yd.lib) (.slice a10 yd.kids.length cap10)
            have h9 := HW9.out
            have hU := HR.out.1.size
            refine Dc.stay (fun q hq => hh.1 q (by have := hq.1; omega)) (fun q hq => ⟨by have := hq.1; omega, ?_⟩) f10 _ _ D10.out.2
            rw [hh.2]
            exact hq.2
    · obtain rfl : j = rules.length := by omega
      have HF : Hid (useRules lits ks sp lbb rules = (zeroD, 6)) := by
        show _ = _
        rw [HR.out.2.2, List.drop_length, useRules]
      obtain ⟨q, q0, q1, q2, q3, q4, q5, qz⟩ := HR.out.1.nod2
      simp only at q0 q1 q2 q3 q4 q5
      go_wp2_with fail
      refine bodyPost_ret (ret11 (HR.out.1.nod2.store ⟨0, 0, ⟨#[]⟩, 0, 0, []⟩ (.slice none 0 0)) rfl rfl) rfl ?_
      rw [HF.out]
      exact ToldU.zero (HR.out.1.six _ _ _ _ _ _)

/-- Macros' rules that may be copied. -/
def smR (rules : List (Dat × Dat)) : Prop := ∀ p t, (p, t) ∈ rules → smD t

/-- WHAT Use TELLS. -/
theorem Use_any (B g gd : Nat) (lits : List ByteArray) (rules : List (Dat × Dat)) (la ra : Option Addr) (lc rc : Nat) (form : Dat) (fa : Option Addr) (fc : Nat) (sp lbb : Int) (w : World)
    (hs : Strs B w la lits) (hr : Rls B w g ra rules) (hf : LC B w (gd + 1) fa form.kids) (hfc : form.kids.length ≤ fc) (hB : B ≤ w.heap.size) (hsr : smR rules) (hsm : smD form) :
    Calls Tryz.prog 11 #[mv lits rules la ra lc rc, dv form fa fc, .int .i64 sp, .int .i64 lbb] w (ToldU (useM lits rules form sp lbb) w) := by
  have WR : ∀ W, Below w.heap.size w W → Calls Tryz.prog 14 #[mv lits rules la ra lc rc] W fun e w' => e = .returned (fv (wrongM lits rules)) ∧ Below W.heap.size W w' := fun W hb =>
    WrongM_any B g lits rules la ra lc rc W (hs.stay (fun k hk => hb.block k (by omega)) (Nat.le_refl _)) (hr.below (hb.mono hB)) (Nat.le_trans hB hb.size)
  have MU : ∀ W, Below w.heap.size w W → Calls Tryz.prog 30 #[dv form fa fc] W fun e w' => e = .returned (.bool (muchB form)) ∧ Below W.heap.size W w' := fun W hb =>
    Much_any B (gd + 1) form fa fc W (hf.below (hb.mono hB)).1 (Nat.le_trans hB hb.size)
  unfold useM
  by_cases h1 : (wrongM lits rules).1 = 0
  · rw [if_neg (by simpa using h1)]
    have e1 : wrongM lits rules = (0, (wrongM lits rules).2) := by rw [← h1]
    rw [e1] at WR
    cases h2 : muchB form with
    | true =>
      rw [if_pos rfl]
      rw [h2] at MU
      exact Use_much lits rules la ra lc rc form fa fc sp lbb w _ WR MU
    | false =>
      rw [if_neg (by simp)]
      rw [h2] at MU
      by_cases h3 : form.kind = 4
      · rw [if_neg (by simpa using h3)]
        obtain ⟨k, n', nm, st, lb, ks0⟩ := form
        simp only at h3 hf hfc
        subst h3
        cases ks0 with
        | nil => exact Use_form lits rules la ra lc rc ⟨4, n', nm, st, lb, []⟩ fa fc sp lbb w _ (.inr rfl) WR MU
        | cons h0 ks =>
          obtain ⟨p1, p2, p3, p4⟩ := wrongM_parts h1
          have hz : sizeL ks ≤ 2000 := by
            unfold muchB at h2
            rw [Bool.or_eq_false_iff] at h2
            have := h2.1
            simp at this
            rw [sizeD, if_pos rfl, sizeL] at this
            omega
          exact Use_rules B g gd lits rules la ra lc rc h0 4 n' nm st lb ks fa fc sp lbb w _ hs hr hf hfc hB p1 p3 (fun p t h => ⟨p4 p t h, hsr p t h⟩) hz (fun d hd => smD_kids _ hsm rfl d (by simp [hd])) WR MU
      · rw [if_pos (by simpa using h3)]
        exact Use_form lits rules la ra lc rc form fa fc sp lbb w _ (.inl h3) WR MU
  · rw [if_pos (by simpa using h1)]
    exact Use_wrong lits rules la ra lc rc form fa fc sp lbb w _ h1 WR
end Go.Proofs.YtgeedaabdonjcaeGreatDoor
