/- Package names: what several bring together. -/
import Derived.Test.YtckiihbnjfeplaaZb
import Derived.Test.YtckiihbnjfeplaaFb
namespace Go.Proofs.Ytckiihbnjfeplaa
set_option linter.unusedVariables false
set_option linter.unusedSimpArgs false
open Go.RowKit Go.Maps Go.WideMaps

/-- Together, so far. -/
structure Mg (l : List Bd) (j : Nat) (os : List Bd) : Prop where
  eq : mg [] 0 l = mg os j (l.drop j)
  nodup : (os.map (·.1)).Nodup
  few : os.length ≤ 200
  mem : ∀ p ∈ os, p ∈ l

theorem Mg.start (l : List Bd) : Mg l 0 [] := ⟨rfl, by simp, by simp, by simp⟩
theorem drop_at {α : Type} {l : List α} {j : Nat} {p : α} (h : l[j]? = some p) : l.drop j = p :: l.drop (j + 1) := by
  have hj := lt_of_at h
  rw [List.drop_eq_getElem_cons hj]
  rw [List.getElem?_eq_getElem hj] at h
  simp at h
  rw [h]
theorem find_of_plc {os : List Bd} {p : Bd} (h : plc (os.map (·.1)) p.1 = none) : os.find? (fun x => decide (x.1 = p.1)) = none := by
  rw [List.find?_eq_none]
  intro x hx
  have hn := plc_none.1 h
  have : x.1 ≠ p.1 := fun e => hn (List.mem_map.2 ⟨x, hx, e⟩)
  simpa using this
theorem mg_cons (out : List Bd) (i : Nat) (b : Bd) (r : List Bd) : mg out i (b :: r) = match out.find? (fun x => decide (x.1 = b.1)) with
    | some x => if x = b then mg out (i + 1) r else .inl (8, i)
    | none => if out.length = 200 then .inl (5, i) else mg (out ++ [b]) (i + 1) r := rfl
theorem Mg.same {l os : List Bd} {j n : Nat} {p : Bd} (h : Mg l j os) (hp : l[j]? = some p) (hn : plc (os.map (·.1)) p.1 = some n) : ∃ x, os[n]? = some x ∧ x.1 = p.1 ∧ (x = p → Mg l (j + 1) os) ∧ (x ≠ p → mg [] 0 l = .inl (8, (j : Int))) := by
  obtain ⟨hlt, hat⟩ := plc_some hn
  rw [List.getElem?_map] at hat
  obtain ⟨x, hx, hx1⟩ := Option.map_eq_some_iff.1 hat
  have hf : os.find? (fun x => decide (x.1 = p.1)) = some x := by
    cases e : os.find? (fun x => decide (x.1 = p.1)) with
    | none => exact absurd hx1 (find_none e x (List.mem_of_getElem? hx))
    | some y =>
      obtain ⟨hy, hy1⟩ := find_some e
      rw [map_inj h.nodup hy (List.mem_of_getElem? hx) (hy1.trans hx1.symm)]
  have he := h.eq
  rw [drop_at hp] at he
  rw [mg_cons, hf] at he
  simp only at he
  refine ⟨x, hx, hx1, fun e => ?_, fun e => ?_⟩
  · rw [if_pos e] at he
    exact ⟨he, h.nodup, h.few, h.mem⟩
  · rw [if_neg e] at he
    exact he
theorem Mg.many {l os : List Bd} {j : Nat} {p : Bd} (h : Mg l j os) (hp : l[j]? = some p) (hn : plc (os.map (·.1)) p.1 = none) (h2 : os.length = 200) : mg [] 0 l = .inl (5, (j : Int)) := by
  have he := h.eq
  rw [drop_at hp] at he
  rw [mg_cons, find_of_plc hn] at he
  simp only at he
  rw [if_pos h2] at he
  exact he
theorem Mg.push {l os : List Bd} {j : Nat} {p : Bd} (h : Mg l j os) (hp : l[j]? = some p) (hn : plc (os.map (·.1)) p.1 = none) (h2 : os.length ≠ 200) : Mg l (j + 1) (os ++ [p]) := by
  have he := h.eq
  rw [drop_at hp] at he
  rw [mg_cons, find_of_plc hn] at he
  simp only at he
  rw [if_neg h2] at he
  refine ⟨he, nodup_snoc h.nodup (find_none (find_of_plc hn)), by have := h.few; simp; omega, ?_⟩
  intro q hq
  rcases List.mem_append.1 hq with hq | hq
  · exact h.mem q hq
  · simp at hq
    subst hq
    exact List.mem_of_getElem? hp

/-- A fault's place, at naught. -/
structure Fc (N : Nat) (w : World) : Prop where
  lt : N < w.heap.size
  q0 : w.cell? ⟨N, 0, none⟩ = some (.int .i64 0)
  q1 : w.cell? ⟨N, 1, none⟩ = some (.int .i64 0)
  z : ∀ j, w.frozen? ⟨N, j, none⟩ = false
theorem Fc.made (w : World) : Fc w.heap.size (w.alloc (.cells #[.int .i64 0, .int .i64 0] 34)) := by
  have q : ∀ j, (w.alloc (.cells #[.int .i64 0, .int .i64 0] 34)).cell? ⟨w.heap.size, j, none⟩ = _ := fun j => World.cell?_alloc_mark w _ 34 (0, 0) j
  exact ⟨by simp, q 0, q 1, fun j => by go_simp⟩
theorem Fc.block {N : Nat} {w w' : World} (h : Fc N w) (hs : w.heap.size ≤ w'.heap.size) (hb : w'.heap[N]? = w.heap[N]?) : Fc N w' := by
  have e : ∀ q, w'.cell? ⟨N, q, none⟩ = w.cell? ⟨N, q, none⟩ := fun q => World.cell?_of_block hb
  have z : ∀ q, w'.frozen? ⟨N, q, none⟩ = w.frozen? ⟨N, q, none⟩ := fun q => World.frozen?_of_block hb
  exact ⟨Nat.lt_of_lt_of_le h.lt hs, (e _).trans h.q0, (e _).trans h.q1, fun j => (z _).trans (h.z j)⟩
theorem Fc.below {N B : Nat} {w w' : World} (h : Fc N w) (hb : Below B w w') (hN : N < B) : Fc N w' := h.block hb.size (hb.block N hN)

/-- What a round knows of memory. -/
def Bun (N n : Nat) (g : ByteArray → Option Nat) (w wr : World) (v : Value) (os : List Bd) : Prop :=
  Below N w wr ∧ MapIs (N + 1) n g wr ∧ RowB (N + 2) v os wr ∧ Fc N wr
theorem Bun.below {N n : Nat} {g : ByteArray → Option Nat} {w w1 w2 : World} {v : Value} {os : List Bd} (h : Bun N n g w w1 v os) (hb : Below w1.heap.size w1 w2) : Bun N n g w w2 v os :=
  ⟨h.1.trans (hb.mono (Nat.le_of_lt h.2.2.2.lt)), h.2.1.below hb, h.2.2.1.below hb, h.2.2.2.below hb h.2.2.2.lt⟩
theorem Bun.alloc {N n : Nat} {g : ByteArray → Option Nat} {w w1 : World} {v : Value} {os : List Bd} (h : Bun N n g w w1 v os) (o : Obj) : Bun N n g w (w1.alloc o) v os := h.below ((Below.refl _ _).alloc (Nat.le_refl _) _)
theorem Bun.marked {N n n' : Nat} {g g' : ByteArray → Option Nat} {w w1 w2 : World} {v : Value} {os : List Bd} (h : Bun N n g w w1 v os) (hm : MapIs (N + 1) n' g' w2) (hg : w1.grownBy w2 (some (N + 1))) : Bun N n' g' w w2 v os := by
  refine ⟨h.1.grown hg (Nat.le_of_lt h.2.2.2.lt) (fun k hk => by cases hk; exact Nat.le_succ _), hm, World.ownsRow.kept h.2.2.1 hg ?_, h.2.2.2.block hg.size (hg.block N h.2.2.2.lt (by intro e; cases e))⟩
  cases hv : v.ownBlock with
  | none => exact Or.inl rfl
  | some k =>
    refine Or.inr ?_
    have := (World.ownsRow.lt h.2.2.1 k hv).1
    intro e
    cases e
    omega
theorem Bun.joined {N n : Nat} {g : ByteArray → Option Nat} {w w1 w2 : World} {v v' : Value} {os os' : List Bd} (h : Bun N n g w w1 v os) (hr : RowB (N + 2) v' os' w2) (hb : Below (N + 2) w1 w2) : Bun N n g w w2 v' os' :=
  ⟨h.1.trans (hb.mono (Nat.le_add_right _ _)), h.2.1.kept (hb.block _ (by omega)), hr, h.2.2.2.below hb (by omega)⟩
theorem Bun.congr {N n : Nat} {g g' : ByteArray → Option Nat} {w w1 : World} {v : Value} {os : List Bd} (h : Bun N n g w w1 v os) (e : ∀ s, g' s = g s) : Bun N n g' w w1 v os := ⟨h.1, h.2.1.congr e, h.2.2.1, h.2.2.2⟩

theorem plc_new {os : List Bd} {p : Bd} (h : plc (os.map (·.1)) p.1 = none) (t : ByteArray) : plc ((os ++ [p]).map (·.1)) t = if t = p.1 then some os.length else plc (os.map (·.1)) t := by
  rw [List.map_append]
  show plc (os.map (·.1) ++ [p.1]) t = _
  rw [plc_snoc]
  by_cases e : t = p.1
  · subst e
    rw [h]
    simp
  · cases plc (os.map (·.1)) t with
    | some k => simp [e]
    | none => simp [e]

/-- Merge's answer. -/
def OutM (r : Sum (Int × Int) (List Bd)) (w : World) (e : Ending) (w' : World) : Prop :=
  Below w.heap.size w w' ∧ match r with
  | .inl x => e = .returned (.tuple #[.slice none 0 0, .agg #[.int .i64 x.1, .int .i64 x.2]])
  | .inr os => ∃ a cap, e = .returned (.tuple #[.slice a os.length cap, .agg #[.int .i64 0, .int .i64 0]]) ∧ Bns w'.heap.size w' a os

theorem below_set2 {B N : Nat} {w w' : World} (h : Below B w w') (hN : B ≤ N) (v0 v1 : Value) :
    Below B w ((w'.setCell ⟨N, 0, none⟩ v0).setCell ⟨N, 1, none⟩ v1) := (h.setCell (p := ⟨N, 0, none⟩) hN _).setCell (p := ⟨N, 1, none⟩) hN _
theorem Bns.set {B N : Nat} {w : World} {a : Option Addr} {ps : List Bd} (h : Bns B w a ps) (hne : ∀ b o, a = some ⟨b, o, none⟩ → b ≠ N) (v0 v1 : Value) : Bns B ((w.setCell ⟨N, 0, none⟩ v0).setCell ⟨N, 1, none⟩ v1) a ps := by
  obtain ⟨hl, h⟩ := h
  refine ⟨hl, ?_⟩
  rcases h with h | ⟨b, o, ha, hb, h⟩
  · exact Or.inl h
  · refine Or.inr ⟨b, o, ha, hb, fun i p hp => ?_⟩
    have hn := hne b o ha
    have e : ∀ q, ((w.setCell ⟨N, 0, none⟩ v0).setCell ⟨N, 1, none⟩ v1).cell? ⟨b, q, none⟩ = w.cell? ⟨b, q, none⟩ := fun q => World.cell?_of_block ((Below.heap_setCell _ _ _ _ hn).trans (Below.heap_setCell _ _ _ _ hn))
    obtain ⟨c0, c1, c2⟩ := h i p hp
    exact ⟨(e _).trans c0, (e _).trans c1, (e _).trans c2⟩

set_option maxRecDepth 100000 in
set_option maxHeartbeats 6400000 in
theorem Merge_any (B : Nat) (l : List Bd) (c : Option Addr) (cc : Nat) (w : World) (h : Bns B w c l) (hB : B ≤ w.heap.size) (hl : l.length ≤ 4000000) (hsz : ∀ p ∈ l, p.1.size ≤ 4000000 ∧ p.2.1.size ≤ 4000000 ∧ p.2.2.size ≤ 4000000) :
    Calls Try.prog 9 #[.slice c l.length cc] w (OutM (mergeL l) w) := by
  have HP : Hid (Bns B w c l ∧ B ≤ w.heap.size ∧ ∀ p ∈ l, p.1.size ≤ 4000000 ∧ p.2.1.size ≤ 4000000 ∧ p.2.2.size ≤ 4000000) := ⟨h, hB, hsz⟩
  clear h hB hsz
  have hmm := @run_makeMap Try.prog
  obtain ⟨R, HRR⟩ : ∃ R, Hid (mergeL l = R) := ⟨_, rfl⟩
  rw [HRR.out]
  go_enter Try.func9, Try.ntmps9
  go_wp2_with fail
  go_loopw [5, 13] (fun v i wr => ∃ (j : Nat) (os : List Bd), j ≤ l.length ∧ i = .int .i64 j ∧ Hid (Mg l j os) ∧ Bun w.heap.size os.length (plc (os.map (·.1))) w wr v os) (fun _ i _ => l.length - (intOf i).toNat)
  case atStart =>
    refine ⟨0, [], Nat.zero_le _, rfl, Mg.start l, ((Below.refl _ _).alloc (Nat.le_refl _) _).alloc (by simp) _, ?_, RowB.nil _ _, (Fc.made w).below ((Below.refl _ _).alloc (Nat.le_refl _) _) (by simp)⟩
    have := MapIs.made (w.alloc (.cells #[.int .i64 0, .int .i64 0] 34))
    have e : (w.alloc (.cells #[.int .i64 0, .int .i64 0] 34)).heap.size = w.heap.size + 1 := by simp
    rw [e] at this
    exact this
  case round =>
    obtain ⟨j, os, hj, rfl, HN, hbun⟩ := hrel
    have HB : Hid (Bun w.heap.size os.length (plc (os.map (·.1))) w wr u5 os) := hbun
    have hfew := HN.out.few
    obtain ⟨oa, oc, hv, hpo⟩ := hbun.2.2.1.lie (by omega)
    subst hv
    have HPO : Hid (Bns wr.heap.size wr oa os) := hpo
    obtain ⟨hlN, q0, q1, zz⟩ := hbun.2.2.2
    clear hbun hpo
    by_cases hlt : j < l.length
    · obtain ⟨b, o, p, rfl, hbB, hs, hc0, hc1, hc2⟩ := HP.out.1.at hlt
      have k0 := (HB.out.1.cell (p := ⟨b, o + j * 3, none⟩) (Nat.lt_of_lt_of_le hbB HP.out.2.1)).trans hc0
      have k1 := (HB.out.1.cell (p := ⟨b, o + j * 3 + 1, none⟩) (Nat.lt_of_lt_of_le hbB HP.out.2.1)).trans hc1
      have k2 := (HB.out.1.cell (p := ⟨b, o + j * 3 + 2, none⟩) (Nat.lt_of_lt_of_le hbB HP.out.2.1)).trans hc2
      have hps := HP.out.2.2 p (List.mem_of_getElem? hs)
      obtain ⟨p1, p2, p3⟩ := p
      have HX : Hid (l[j]? = some (p1, p2, p3)) := hs
      simp only at k0 k1 k2 hps
      have HPS : Hid (p1.size ≤ maxLen) := by show p1.size ≤ maxLen; unfold maxLen; omega
      clear hc0 hc1 hc2 hs
      cases hp : plc (os.map (·.1)) p1 with
      | some n =>
        have HG : Hid (plc (os.map (·.1)) p1 = some n) := hp
        clear hp
        obtain ⟨x, hxn, hx1, hyes, hno⟩ := HN.out.same HX.out HG.out
        have hnl := lt_of_at hxn
        obtain ⟨b2, o2, x', rfl, hb2, hx', g0, g1, g2⟩ := HPO.out.at hnl
        obtain rfl : x = x' := Option.some.inj (hxn.symm.trans hx')
        obtain ⟨x1, x2, x3⟩ := x
        simp only at hx1 g0 g1 g2
        subst hx1
        have HY : Hid ((x1, x2, x3) = (x1, p2, p3) → Mg l (j + 1) os) := hyes
        have HNO : Hid ((x1, x2, x3) ≠ (x1, p2, p3) → mg [] 0 l = .inl (8, (j : Int))) := hno
        clear hyes hno hxn hx'
        have HA : Hid (Below wr.heap.size wr (wr.alloc (.cells #[.string x1, .string p2, .string p3] 53))) := (Below.refl _ _).alloc (Nat.le_refl _) _
        have g0' := (HA.out.cell (p := ⟨b2, o2 + n * 3, none⟩) hb2).trans g0
        have g1' := (HA.out.cell (p := ⟨b2, o2 + n * 3 + 1, none⟩) hb2).trans g1
        have g2' := (HA.out.cell (p := ⟨b2, o2 + n * 3 + 2, none⟩) hb2).trans g2
        clear g0 g1 g2
        by_cases h23 : x2 = p2 ∧ x3 = p3
        · obtain ⟨rfl, rfl⟩ := h23
          go_wp2_with (at_lookup; refine wpList_look_yes rfl _ _ rfl rfl (HB.out.alloc _).2.1 x1 rfl HPS.out n HG.out ?_)
          go_quiet (fail)
          go_wp2_with fail
          go_roundw
          case rel => exact ⟨j + 1, os, by omega, by go_num, HY.out (by simp), (HB.out.alloc _).below (below_drewN (Below.refl _ _) _)⟩
          case measure => simp [intOf]; omega
        · have HE : Hid (R = .inl (8, (j : Int))) := by
            show R = _
            rw [← HRR.out]
            unfold mergeL
            rw [HNO.out (by intro e; simp at e; exact h23 e)]
          have h2 : (x2.toList == p2.toList) = false ∨ (x2 = p2 ∧ (x3.toList == p3.toList) = false) := by
            by_cases e : x2 = p2
            · refine Or.inr ⟨e, ?_⟩
              cases e3 : (x3.toList == p3.toList) with
              | false => rfl
              | true => exact absurd ⟨e, beqS_true e3⟩ h23
            · refine Or.inl ?_
              cases e3 : (x2.toList == p2.toList) with
              | false => rfl
              | true => exact absurd (beqS_true e3) e
          clear h23
          rcases h2 with h2 | ⟨rfl, h3⟩
          all_goals
            go_wp2_with (at_lookup; refine wpList_look_yes rfl _ _ rfl rfl (HB.out.alloc _).2.1 x1 rfl HPS.out n HG.out ?_)
            go_quiet (fail)
            go_wp2_with fail
            refine bodyPost_ret (v := .tuple #[.slice none 0 0, .agg #[.int .i64 8, .int .i64 (j : Int)]]) (by simp [results, Try.results9, go_sem, q0, q1, hlN]) rfl ?_
            rw [HE.out]
            exact ⟨below_set2 (below_drewN (HB.out.alloc _).1 _) (Nat.le_refl _) _ _, rfl⟩
      | none =>
        have HG : Hid (plc (os.map (·.1)) p1 = none) := hp
        clear hp
        by_cases h200 : os.length = 200
        · have HE : Hid (R = .inl (5, (j : Int))) := by
            show R = _
            rw [← HRR.out]
            unfold mergeL
            rw [HN.out.many HX.out HG.out h200]
          go_wp2_with (at_lookup; refine wpList_look_no rfl _ _ rfl rfl (HB.out.alloc _).2.1 p1 rfl HPS.out HG.out ?_)
          refine bodyPost_ret (v := .tuple #[.slice none 0 0, .agg #[.int .i64 5, .int .i64 (j : Int)]]) (by simp [results, Try.results9, go_sem, q0, q1, hlN]) rfl ?_
          rw [HE.out]
          exact ⟨(below_set2 HB.out.1 (Nat.le_refl _) _ _).alloc (by simp [World.setCell]; omega) _, rfl⟩
        · have hlM := HB.out.2.1.lt
          have HN2 : Hid (Mg l (j + 1) (os ++ [(p1, p2, p3)])) := HN.out.push HX.out HG.out h200
          have HPL : Hid (∀ t, plc ((os ++ [(p1, p2, p3)]).map (·.1)) t = if t = p1 then some os.length else plc (os.map (·.1)) t) := plc_new HG.out
          have CL : Hid (∀ w, Calls Try.prog 24 #[.agg #[.string p1, .string p2, .string p3]] w fun e w' => e = .returned (.agg #[.string p1, .string p2, .string p3]) ∧ Below w.heap.size w w') := fun w => cloned_any p1 p2 p3 (by omega) (by omega) (by omega) w
          have hnm : os.length < maxLen := by unfold maxLen; omega
          go_wp2_with (first | (at_lookup; refine wpList_look_no rfl _ _ rfl rfl (HB.out.alloc _).2.1 p1 rfl HPS.out HG.out ?_) | (at_mapUpdate; refine wpList_mark rfl _ _ _ rfl rfl (HB.out.alloc _).2.1 hnm p1 rfl HPS.out os.length rfl (by omega) ?_))
          intro w1 hm1 hg1
          have H1 : Hid (Bun w.heap.size (os.length + 1) (fun t => if t = p1 then some os.length else plc (os.map (·.1)) t) w w1 (.slice oa os.length oc) os) := (HB.out.alloc _).marked hm1 hg1
          have c0 : w1.cell? ⟨wr.heap.size, 0, none⟩ = some (.string p1) := hg1.cell (a := ⟨wr.heap.size, 0, none⟩) (by simp [go_sem]) (by simp; omega)
          have c1 : w1.cell? ⟨wr.heap.size, 1, none⟩ = some (.string p2) := hg1.cell (a := ⟨wr.heap.size, 1, none⟩) (by simp [go_sem]) (by simp; omega)
          have c2 : w1.cell? ⟨wr.heap.size, 2, none⟩ = some (.string p3) := hg1.cell (a := ⟨wr.heap.size, 2, none⟩) (by simp [go_sem]) (by simp; omega)
          clear hm1 hg1 k0 k1 k2 q0 q1 zz
          go_wp2_with fail
          refine (CL.out _).mono ?_
          rintro e w2 ⟨rfl, hb2⟩
          have H2 : Hid (Bun w.heap.size (os.length + 1) (fun t => if t = p1 then some os.length else plc (os.map (·.1)) t) w w2 (.slice oa os.length oc) os) := H1.out.below hb2
          clear hb2 c0 c1 c2
          go_wp2_with (refine wpList_joinB rfl (.tmp 44) (.tmp 47) rfl (w.heap.size + 2) _ os rfl (H2.out.alloc _).2.2.1 _ 1 1 rfl [(p1, p2, p3)] rfl (three_src w2 p1 p2 p3) (by have := H2.out.2.1.lt; simp; omega) (os.length + 1) rfl (by omega) ?_)
          intro at' cap' w3 hr3 hb3
          have H3 : Hid (Bun w.heap.size (os ++ [(p1, p2, p3)]).length (plc ((os ++ [(p1, p2, p3)]).map (·.1))) w w3 (.slice at' (os.length + 1) cap') (os ++ [(p1, p2, p3)])) := by
            have := ((H2.out.alloc _).joined hr3 hb3).congr HPL.out
            rw [List.length_append]
            exact this
          clear hr3 hb3
          go_wp2_with fail
          go_roundw
          case rel => exact ⟨j + 1, _, by omega, by go_num, HN2.out, H3.out⟩
          case measure => simp [intOf]; omega
    · obtain rfl : j = l.length := by omega
      have HE : Hid (R = .inr (srt (·.1) os)) := by
        show R = _
        rw [← HRR.out]
        unfold mergeL
        rw [HN.out.eq, List.drop_length]
        rfl
      have SO : Hid (Calls Try.prog 25 #[.slice oa os.length oc, .func (.func 26) #[] #[]] wr fun e w' => e = .returned (.tuple #[]) ∧ Below (w.heap.size + 2) wr w' ∧ Bns w'.heap.size w' oa (srt (·.1) os)) := (sortBinds_any _ _ os wr HB.out.2.2.1 hfew HN.out.nodup).mono fun e w' ⟨he, hb, a, cap, hv, hbn⟩ => by
        have : oa = a := by simp at hv; exact hv.1
        subst this
        exact ⟨he, hb, hbn⟩
      have HBK : Hid (∀ b o, oa = some ⟨b, o, none⟩ → b ≠ w.heap.size) := fun b o e => by
        have := (World.ownsRow.lt HB.out.2.2.1 b (by subst e; rfl)).1
        omega
      have HSL : Hid ((srt (·.1) os).length = os.length) := (srt_perm _ _).length_eq
      go_wp2_with fail
      refine SO.out.mono ?_
      rintro e w1 ⟨rfl, hb1, hbn1⟩
      obtain ⟨hl1, r0, r1, z1⟩ := HB.out.2.2.2.below hb1 (Nat.lt_add_of_pos_right (by decide))
      have H1 : Hid (Below w.heap.size w w1 ∧ Bns w1.heap.size w1 oa (srt (·.1) os)) := ⟨HB.out.1.trans (hb1.mono (Nat.le_add_right _ _)), hbn1⟩
      clear hb1 hbn1 q0 q1 zz
      go_wp2_with fail
      refine bodyPost_ret (v := .tuple #[.slice oa os.length oc, .agg #[.int .i64 0, .int .i64 0]]) (by simp [results, Try.results9, go_sem, r0, r1, hl1]) rfl ?_
      rw [HE.out]
      refine ⟨below_set2 H1.out.1 (Nat.le_refl _) _ _, oa, oc, by rw [HSL.out], ?_⟩
      have := H1.out.2.set HBK.out (.int .i64 0) (.int .i64 0)
      have e : ∀ v0 v1, ((w1.setCell ⟨w.heap.size, 0, none⟩ v0).setCell ⟨w.heap.size, 1, none⟩ v1).heap.size = w1.heap.size := fun v0 v1 => by simp [World.setCell]
      rw [e]
      exact this
end Go.Proofs.Ytckiihbnjfeplaa
