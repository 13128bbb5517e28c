/- Chapter 5's laws: one stamp for another. Chapter 5's laws: one name for another. -/
import Derived.Test.YtgeedaabdonjcaeGreatDoorK41
import Derived.Test.YtgeedaabdonjcaeGreatDoorK42
namespace Go.Proofs.YtgeedaabdonjcaeGreatDoor
section
set_option linter.unusedVariables false
set_option linter.unusedSimpArgs false
open Go.RowKit Go.Maps Go.WideMaps

mutual
/-- No list is too long to be copied. -/
def fewD : Dat → Prop
  | ⟨k, n, nm, st, lb, ks⟩ => ks.length * 72 ≤ 140737488355328 ∧ fewL ks
def fewL : List Dat → Prop
  | [] => True
  | d :: r => fewD d ∧ fewL r
end
theorem fewL_mem : ∀ (l : List Dat), fewL l → ∀ d ∈ l, fewD d
  | x :: r, h, d, hd => by
    rw [fewL] at h
    rcases List.mem_cons.1 hd with rfl | hd
    · exact h.1
    · exact fewL_mem r h.2 d hd

mutual
theorem fewD_bare : ∀ (d : Dat), sizeD d ≤ 2000 → fewD (bareD d)
  | ⟨k, n, nm, st, lb, ks⟩, h => by
    rw [bareD]
    rw [sizeD] at h
    split
    · rename_i hk
      rw [if_pos hk] at h
      rw [fewD, bareL_map, List.length_map]
      have h2 := sizeL_many ks
      refine ⟨by omega, ?_⟩
      rw [← bareL_map]
      exact fewL_bare ks (by omega)
    · split
      · simp [fewD, fewL]
      · split <;> simp [fewD, fewL]
theorem fewL_bare : ∀ (l : List Dat), sizeL l ≤ 2000 → fewL (bareL l)
  | [], _ => by rw [bareL, fewL]; trivial
  | d :: r, h => by
    rw [sizeL] at h
    rw [bareL, fewL]
    exact ⟨fewD_bare d (by omega), fewL_bare r (by omega)⟩
end
theorem fewD_zero : fewD zeroD := by unfold zeroD; rw [fewD, fewL]; simp

theorem fewD_rules (lits : List ByteArray) (ks : List Dat) (sp lb : Int) : ∀ (rules : List (Dat × Dat)), fewD (useRules lits ks sp lb rules).1
  | [] => by rw [useRules]; exact fewD_zero
  | (p, t) :: r => by
    rw [useRules]
    cases fitL lits p.kids.tail ks (fun _ => []) with
    | none => exact fewD_rules lits ks sp lb r
    | some m =>
      simp only [Option.map_some, Option.getD_some]
      unfold grownM
      split
      · split
        · exact fewD_zero
        · rename_i h
          refine fewD_bare _ ?_
          unfold muchB at h
          simp at h
          omega
      · exact fewD_zero
theorem fewD_use (lits : List ByteArray) (rules : List (Dat × Dat)) (form : Dat) (sp lb : Int) : fewD (useM lits rules form sp lb).1 := by
  unfold useM
  split
  · exact fewD_zero
  · split
    · exact fewD_zero
    · split
      · exact fewD_zero
      · split
        · exact fewD_zero
        · exact fewD_rules _ _ _ _ _

theorem Nod.set3 {N : Nat} {d : Dat} {v : Value} {w : World} (h : Nod N d v w) (x : Int) : Nod N { d with stamp := x } v (w.setCell ⟨N, 3, none⟩ (.int .i64 x)) := by
  obtain ⟨l, q0, q1, q2, q3, q4, q5, z⟩ := h
  refine ⟨by simpa [World.setCell] using l, ?_, ?_, ?_, ?_, ?_, ?_, fun j => ?_⟩
  all_goals go_simp
  all_goals simp [*]

/-- What restamped keeps in its loop. -/
structure RS (w : World) (d : Dat) (sl : Value) (g : Dat → Dat) (done : List Dat) (v : Value) (es : List (Dat × Option Addr × Nat)) (W : World) : Prop where
  old : Below w.heap.size w W
  box : Nod w.heap.size d sl W
  out : Nod (w.heap.size + 1) zeroD (.slice none 0 0) W
  row : RowC (w.heap.size + 2) v es W
  same : es.map (·.1) = done.map g
theorem RS.below {w W W' : World} {d : Dat} {sl : Value} {g : Dat → Dat} {done : List Dat} {v : Value} {es : List (Dat × Option Addr × Nat)} (h : RS w d sl g done v es W) (hb : Below W.heap.size W W') : RS w d sl g done v es W' :=
  ⟨h.old.trans (hb.mono h.old.size), h.box.after hb, h.out.after hb, h.row.below hb, h.same⟩
theorem RS.start (w : World) (d : Dat) (sl : Value) (g : Dat → Dat) : RS w d sl g [] (.slice none 0 0) [] ((w.alloc (.cells #[.int .i64 d.kind, .int .i64 d.n, .string d.name, .int .i64 d.stamp, .int .i64 d.lib, sl] 28)).alloc (.cells #[.int .i64 0, .int .i64 0, .string ⟨#[]⟩, .int .i64 0, .int .i64 0, .slice none 0 0] 28)) := by
  refine ⟨((Below.refl _ _).alloc (Nat.le_refl _) _).alloc (by simp) _, (Nod.made w d sl).alloc _, ?_, RowC.nil _ _, rfl⟩
  have := Nod.made (w.alloc (.cells #[.int .i64 d.kind, .int .i64 d.n, .string d.name, .int .i64 d.stamp, .int .i64 d.lib, sl] 28)) zeroD (.slice none 0 0)
  simpa [zeroD, emS] using this
theorem RS.set3 {w W : World} {d : Dat} {sl : Value} {g : Dat → Dat} {done : List Dat} {v : Value} {es : List (Dat × Option Addr × Nat)} (h : RS w d sl g done v es W) (x : Int) : RS w { d with stamp := x } sl g done v es (W.setCell ⟨w.heap.size, 3, none⟩ (.int .i64 x)) := by
  have hke : Keep w.heap.size W (W.setCell ⟨w.heap.size, 3, none⟩ (.int .i64 x)) := (Keep.refl _ _).setCell _ rfl _
  exact ⟨h.old.setCell (p := ⟨w.heap.size, 3, none⟩) (Nat.le_refl _) _, h.box.set3 x, h.out.keep hke (by omega), h.row.keep hke (by omega), h.same⟩

theorem ret13 {ts : Array Value} {W : World} {R : Nat} {d : Dat} {v : Value} (h : Nod R d v W) (h6 : ts[6]? = some (.pointer (some ⟨R, 0, none⟩))) :
    (results Tryz.f13 ts).run Tryz.prog W = .ok (.agg #[.int .i64 d.kind, .int .i64 d.n, .string d.name, .int .i64 d.stamp, .int .i64 d.lib, v]) W := by
  obtain ⟨q, q0, q1, q2, q3, q4, q5, qz⟩ := h
  simp [results, Tryz.results13, go_sem, h6, q0, q1, q2, q3, q4, q5]

theorem reSt_name (a b : Int) (d : Dat) : (reSt a b d).name = d.name := by obtain ⟨k, n, nm, st, lb, ks⟩ := d; rw [reSt]

set_option maxRecDepth 100000 in
set_option maxHeartbeats 3200000 in
theorem restamped_step (f : Nat) (s t : Int) (d : Dat) (a : Option Addr) (cap : Nat) (w : World) (hl : Dn w (f + 1) a d.kids) (hf : fewD d)
    (ih : ∀ (d' : Dat), d' ∈ d.kids → ∀ (a : Option Addr) (cap : Nat) (w : World), Dn w f a d'.kids → fewD d' → Calls Tryz.prog 13 #[dv d' a cap, .int .i64 s, .int .i64 t] w (ToldO (reSt s t d') w)) :
    Calls Tryz.prog 13 #[dv d a cap, .int .i64 s, .int .i64 t] w (ToldO (reSt s t d) w) := by
  obtain ⟨k, n, nm, st, lb, ks⟩ := d
  rw [fewD] at hf
  simp only at hl ih
  have hlen : ks.length * 72 ≤ 140737488355328 := hf.1
  have FL := hidd hf.2
  have HL := hidd hl
  have IH := hidd ih
  clear hl ih hf
  obtain ⟨st', hst'⟩ : ∃ st', st' = if k = 3 ∧ st = s then t else st := ⟨_, rfl⟩
  have e1 : reSt s t ⟨k, n, nm, st, lb, ks⟩ = ⟨k, n, nm, st', lb, ks.map (reSt s t)⟩ := by rw [reSt, reStL_map, hst']
  rw [e1]
  clear e1
  have S0 := hidd (RS.start w ⟨k, n, nm, st, lb, ks⟩ (.slice a ks.length cap) (reSt s t))
  have key : ∀ {P : Prop}, ((k == 3) = false → st' = st → P) → ((k == 3) = true → (st == s) = false → st' = st → P) → ((k == 3) = true → (st == s) = true → st' = t → P) → P := fun h1 h2 h3 => by
    by_cases hk : k = 3
    · by_cases hs : st = s
      · exact h3 (by simpa using hk) (by simpa using hs) (by rw [hst', if_pos ⟨hk, hs⟩])
      · exact h2 (by simpa using hk) (by simpa using hs) (by rw [hst', if_neg (fun h => hs h.2)])
    · exact h1 (by simpa using hk) (by rw [hst', if_neg (fun h => hk h.1)])
  clear hst'
  have S2 : Hid (st' = st → RS w ⟨k, n, nm, st', lb, ks⟩ (.slice a ks.length cap) (reSt s t) [] (.slice none 0 0) [] ((w.alloc (.cells #[.int .i64 k, .int .i64 n, .string nm, .int .i64 st, .int .i64 lb, .slice a ks.length cap] 28)).alloc (.cells #[.int .i64 0, .int .i64 0, .string ⟨#[]⟩, .int .i64 0, .int .i64 0, .slice none 0 0] 28))) := fun e => by rw [e]; exact S0.out
  have S3 : Hid (st' = t → RS w ⟨k, n, nm, st', lb, ks⟩ (.slice a ks.length cap) (reSt s t) [] (.slice none 0 0) [] ((w.alloc (.cells #[.int .i64 k, .int .i64 n, .string nm, .int .i64 t, .int .i64 lb, .slice a ks.length cap] 28)).alloc (.cells #[.int .i64 0, .int .i64 0, .string ⟨#[]⟩, .int .i64 0, .int .i64 0, .slice none 0 0] 28))) := fun e => by rw [e]; exact RS.start w ⟨k, n, nm, t, lb, ks⟩ (.slice a ks.length cap) (reSt s t)
  clear S0
  unfold dv
  refine key (fun hk3 e => ?_) (fun hk3 hst e => ?_) (fun hk3 hst e => ?_)
  all_goals
    clear key
    have E := hidd e
    clear e
    go_enter Tryz.func13, Tryz.ntmps13
    go_wp2_with fail
    go_loopw [7, 24] (fun v i wr => ∃ (j : Nat) (es : List (Dat × Option Addr × Nat)), j ≤ ks.length ∧ i = .int .i64 j ∧ Hid (RS w ⟨k, n, nm, st', lb, ks⟩ (.slice a ks.length cap) (reSt s t) (ks.take j) v es wr)) (fun _ i _ => ks.length - (intOf i).toNat)
    case atStart => exact ⟨0, [], Nat.zero_le _, rfl, by first | exact S2.out E.out | exact S3.out E.out⟩
    case round =>
      clear S2 S3
      obtain ⟨j, es, hj, rfl, HR⟩ := hrel
      have HES : Hid (es.length = j) := by
        show _ = _
        have := congrArg List.length HR.out.same
        simp at this
        omega
      have lo := HR.out.out.lt
      by_cases hlt : j < ks.length
      · obtain ⟨kid, hkid⟩ : ∃ kid, ks[j]? = some kid := ⟨ks[j], List.getElem?_eq_getElem hlt⟩
        have hne : ks ≠ [] := by intro e; rw [e] at hlt; simp at hlt
        obtain ⟨g', b, o, hg, ha, hbB, hall⟩ := HL.out.at hne
        subst ha
        obtain ⟨a', cap', k0, k1, k2, k3, k4, k5, hkn, hkc, hkk⟩ := hall j kid hkid
        have hg' : g' = f := by omega
        subst hg'
        have hc : ∀ q, wr.cell? ⟨b, q, none⟩ = w.cell? ⟨b, q, none⟩ := fun q => HR.out.old.cell (p := ⟨b, q, none⟩) hbB
        have j0 := (hc _).trans k0
        have j1 := (hc _).trans k1
        have j2 := (hc _).trans k2
        have j3 := (hc _).trans k3
        have j4 := (hc _).trans k4
        have j5 := (hc _).trans k5
        have H2 := hidd (HR.out.below ((Below.refl _ _).alloc (Nat.le_refl _) (.cells #[.int .i64 kid.kind, .int .i64 kid.n, .string kid.name, .int .i64 kid.stamp, .int .i64 kid.lib, .slice a' kid.kids.length cap'] 28)))
        have CA : Hid (∀ W, Below w.heap.size w W → Calls Tryz.prog 13 #[dv kid a' cap', .int .i64 s, .int .i64 t] W (ToldO (reSt s t kid) W)) := fun W hb => IH.out kid (List.mem_of_getElem? hkid) a' cap' W (Dn.lift hkk hb) (fewL_mem _ FL.out _ (List.mem_of_getElem? hkid))
        have TK : Hid ((ks.take (j + 1)).map (reSt s t) = (ks.take j).map (reSt s t) ++ [reSt s t kid]) := by
          show _ = _
          rw [List.take_add_one, hkid]
          simp
        have HN : Hid ((reSt s t kid).name.size ≤ maxLen) := by
          show _ ≤ _
          rw [reSt_name]
          exact hkn
        unfold dv at CA
        clear k0 k1 k2 k3 k4 k5 hall hkk hkid hc hg hkn hkc
        go_wp2_with fail
        refine (CA.out _ H2.out.old).mono ?_
        rintro e w2 ⟨hb2, a2, cap2, f2, rfl, hcap2, hdc2⟩
        have H3 := hidd (H2.out.below hb2)
        have hs2 : wr.heap.size + 1 ≤ w2.heap.size := by have := hb2.size; simpa using this
        generalize reSt s t kid = rk at TK HN hcap2 hdc2 CA
        have HD2 : Hid (rk.kids.length ≤ cap2 ∧ Dc (New wr w2) w2 f2 a2 rk.kids) := ⟨hcap2, Dc.stay (fun _ _ => rfl) (fun k hk => ⟨by have := hk.1; simp at this; omega, hk.2⟩) _ _ _ hdc2⟩
        clear hb2 hcap2 hdc2 CA H2
        obtain ⟨i0, hinf, hz0, hz1, hz2⟩ := info_parts infoDat
        unfold dv
        simp only
        go_wp2_with (at_builtin; refine wpList_append_where rfl _ _ 26 rfl (w.heap.size + 2) 28 i0 _ 6 72 Tryz.underlying26 hinf hz0 hz1 hz2 rfl (by decide) u7 es.length (flat es) rfl (by exact H3.out.row.own.alloc _) ⟨w2.heap.size, 0, none⟩ 1 1 [.int .i64 rk.kind, .int .i64 rk.n, .string rk.name, .int .i64 rk.stamp, .int .i64 rk.lib, .slice a2 rk.kids.length cap2] rfl rfl ?c1 ?c2 (by decide) ?c3 ?c4 ?c5 ?_)
        case c1 =>
          intro q u hq
          have hcell := World.cell?_alloc_mark w2 #[.int .i64 rk.kind, .int .i64 rk.n, .string rk.name, .int .i64 rk.stamp, .int .i64 rk.lib, .slice a2 rk.kids.length cap2] 28 (0, 0) q
          have hadd := addr_add w2.heap.size q
          rw [hadd, hcell]
          simpa using hq
        case c2 =>
          intro u hu
          simp at hu
          rcases hu with rfl | rfl | rfl | rfl | rfl | rfl <;> rfl
        case c3 => have := HES.out; unfold maxLen; omega
        case c4 => have := HES.out; omega
        case c5 => simp; omega
        intro v' w4 hown4 hg4 hw4
        have HROW : Hid (RowC (w.heap.size + 2) v' (es ++ [(rk, a2, cap2)]) w4) :=
          RowC.push (f := f2) (wr := wr) (w := w2) _ H3.out.row (by omega) (fun k hk => (HR.out.row.own.lt k hk).2) HD2.out.2 HN.out HD2.out.1 hown4 hg4 hw4
        have hrow : ∀ k, u7.ownBlock = some k → w.heap.size + 2 ≤ k := fun k hk => (H3.out.row.own.lt k hk).1
        have H4 : Hid (RS w ⟨k, n, nm, st', lb, ks⟩ (.slice (some ⟨b, o, none⟩) ks.length cap) (reSt s t) (ks.take (j + 1)) v' (es ++ [(rk, a2, cap2)]) w4) := by
          refine ⟨(H3.out.old.alloc (by omega) _).grown hg4 (by simp; omega) (fun k hk => by have := hrow k hk; omega), (H3.out.box.alloc _).grown hg4 (fun e => by have := hrow _ e.symm; omega), (H3.out.out.alloc _).grown hg4 (fun e => by have := hrow _ e.symm; omega), HROW.out, ?_⟩
          rw [TK.out, List.map_append, H3.out.same]
          rfl
        clear hown4 hg4 hw4 hrow HD2 HROW H3
        go_wp2_with fail
        go_roundw
        case rel => exact ⟨j + 1, _, by omega, by go_num, H4.out⟩
        case measure => simp [intOf]; omega
      · obtain rfl : j = ks.length := by omega
        obtain ⟨ao, cp, f', hv, hcp, hdc⟩ := HR.out.row.lie (by have := HES.out; omega)
        have e2 : es.map (·.1) = ks.map (reSt s t) := by
          have := HR.out.same
          rwa [List.take_length] at this
        rw [e2] at hv hcp hdc
        rw [List.length_map] at hv
        subst hv
        have HD := hidd hdc
        clear hdc e2
        obtain ⟨p, p0, p1, p2, p3, p4, p5, pz⟩ := HR.out.box
        obtain ⟨q, q0, q1, q2, q3, q4, q5, qz⟩ := HR.out.out
        simp only [zeroD, emS] at p0 p1 p2 p3 p4 p5 q0 q1 q2 q3 q4 q5
        go_wp2_with fail
        have N1 := hidd (HR.out.box.set5 (.slice ao ks.length cp))
        have hke : Keep w.heap.size wr (wr.setCell ⟨w.heap.size, 5, none⟩ (.slice ao ks.length cp)) := (Keep.refl _ _).setCell _ rfl _
        have N2 := hidd ((HR.out.out.keep hke (by omega)).store ⟨k, n, nm, st', lb, ks⟩ (.slice ao ks.length cp))
        clear p p0 p1 p2 p3 p4 p5 pz q q0 q1 q2 q3 q4 q5 qz
        refine bodyPost_ret (ret13 N2.out rfl) rfl ?_
        have hb5 := HR.out.old.setCell (p := ⟨w.heap.size, 5, none⟩) (Nat.le_refl _) (.slice ao ks.length cp)
        refine ⟨below_sixN hb5 (by omega) _ _ _ _ _ _, ao, cp, f', by simp [dv], hcp, ?_⟩
        have hh := six_heap (wr.setCell ⟨w.heap.size, 5, none⟩ (.slice ao ks.length cp)) (w.heap.size + 1) (.int .i64 k) (.int .i64 n) (.string nm) (.int .i64 st') (.int .i64 lb) (.slice ao ks.length cp)
        refine Dc.stay (fun b hb => ?_) (fun b hb => ?_) _ _ _ HD.out
        · exact (hh.1 b (by have := hb.1; omega)).trans (Below.heap_setCell _ _ _ _ (by have := hb.1; show b ≠ w.heap.size; omega))
        · refine ⟨by have := hb.1; omega, ?_⟩
          rw [hh.2]
          simpa [World.setCell] using hb.2

/-- ONE STAMP FOR ANOTHER. -/
theorem restamped_any (s t : Int) : ∀ (f : Nat) (d : Dat) (a : Option Addr) (cap : Nat) (w : World), Dn w f a d.kids → fewD d → Calls Tryz.prog 13 #[dv d a cap, .int .i64 s, .int .i64 t] w (ToldO (reSt s t d) w) := by
  intro f
  induction f with
  | zero =>
    intro d a cap w hl hf
    refine restamped_step 0 s t d a cap w (hl.upto 1) hf fun d' hd => ?_
    rw [show d.kids = [] from hl] at hd
    cases hd
  | succ f ih =>
    intro d a cap w hl hf
    exact restamped_step f s t d a cap w hl hf fun d' hd a cap w h1 h2 => ih d' a cap w h1 h2
end
section
set_option linter.unusedVariables false
set_option linter.unusedSimpArgs false
open Go.RowKit Go.Maps Go.WideMaps

theorem renL_map (a b : ByteArray) : ∀ (l : List Dat), renL a b l = l.map (renD a b)
  | [] => by rw [renL]; rfl
  | d :: r => by rw [renL, renL_map a b r]; rfl
theorem renD_name (a b : ByteArray) (d : Dat) (hb : b.size ≤ maxLen) (hd : d.name.size ≤ maxLen) : (renD a b d).name.size ≤ maxLen := by
  obtain ⟨k, n, nm, st, lb, ks⟩ := d
  rw [renD]
  simp only at hd ⊢
  split
  · exact hb
  · exact hd
theorem ret17 {ts : Array Value} {W : World} {R : Nat} {d : Dat} {v : Value} (h : Nod R d v W) (h6 : ts[6]? = some (.pointer (some ⟨R, 0, none⟩))) :
    (results Tryz.f17 ts).run Tryz.prog W = .ok (.agg #[.int .i64 d.kind, .int .i64 d.n, .string d.name, .int .i64 d.stamp, .int .i64 d.lib, v]) W := by
  obtain ⟨q, q0, q1, q2, q3, q4, q5, qz⟩ := h
  simp [results, Tryz.results17, go_sem, h6, q0, q1, q2, q3, q4, q5]

set_option maxRecDepth 100000 in
set_option maxHeartbeats 3200000 in
theorem renamed_step (f : Nat) (s t : ByteArray) (d : Dat) (a : Option Addr) (cap : Nat) (w : World) (hl : Dn w (f + 1) a d.kids) (hf : fewD d) (htm : t.size ≤ maxLen)
    (ih : ∀ (d' : Dat), d' ∈ d.kids → ∀ (a : Option Addr) (cap : Nat) (w : World), Dn w f a d'.kids → fewD d' → Calls Tryz.prog 17 #[dv d' a cap, .string s, .string t] w (ToldO (renD s t d') w)) :
    Calls Tryz.prog 17 #[dv d a cap, .string s, .string t] w (ToldO (renD s t d) w) := by
  obtain ⟨k, n, nm, st, lb, ks⟩ := d
  rw [fewD] at hf
  simp only at hl ih
  have hlen : ks.length * 72 ≤ 140737488355328 := hf.1
  have FL := hidd hf.2
  have HL := hidd hl
  have IH := hidd ih
  clear hl ih hf
  obtain ⟨nm', hst'⟩ : ∃ nm', nm' = if k = 3 ∧ nm = s then t else nm := ⟨_, rfl⟩
  have e1 : renD s t ⟨k, n, nm, st, lb, ks⟩ = ⟨k, n, nm', st, lb, ks.map (renD s t)⟩ := by rw [renD, renL_map, hst']
  rw [e1]
  clear e1
  have S0 := hidd (RS.start w ⟨k, n, nm, st, lb, ks⟩ (.slice a ks.length cap) (renD s t))
  have key : ∀ {P : Prop}, ((k == 3) = false → nm' = nm → P) → ((k == 3) = true → (nm.toList == s.toList) = false → nm' = nm → P) → ((k == 3) = true → (nm.toList == s.toList) = true → nm' = t → P) → P := fun h1 h2 h3 => by
    by_cases hk : k = 3
    · by_cases hs : nm = s
      · exact h3 (by simpa using hk) (by rw [hs]; simp) (by rw [hst', if_pos ⟨hk, hs⟩])
      · exact h2 (by simpa using hk) (beqS_ne hs) (by rw [hst', if_neg (fun h => hs h.2)])
    · exact h1 (by simpa using hk) (by rw [hst', if_neg (fun h => hk h.1)])
  clear hst'
  have S2 : Hid (nm' = nm → RS w ⟨k, n, nm', st, lb, ks⟩ (.slice a ks.length cap) (renD s t) [] (.slice none 0 0) [] ((w.alloc (.cells #[.int .i64 k, .int .i64 n, .string nm, .int .i64 st, .int .i64 lb, .slice a ks.length cap] 28)).alloc (.cells #[.int .i64 0, .int .i64 0, .string ⟨#[]⟩, .int .i64 0, .int .i64 0, .slice none 0 0] 28))) := fun e => by rw [e]; exact S0.out
  have S3 : Hid (nm' = t → RS w ⟨k, n, nm', st, lb, ks⟩ (.slice a ks.length cap) (renD s t) [] (.slice none 0 0) [] ((w.alloc (.cells #[.int .i64 k, .int .i64 n, .string t, .int .i64 st, .int .i64 lb, .slice a ks.length cap] 28)).alloc (.cells #[.int .i64 0, .int .i64 0, .string ⟨#[]⟩, .int .i64 0, .int .i64 0, .slice none 0 0] 28))) := fun e => by rw [e]; exact RS.start w ⟨k, n, t, st, lb, ks⟩ (.slice a ks.length cap) (renD s t)
  clear S0
  unfold dv
  refine key (fun hk3 e => ?_) (fun hk3 hst e => ?_) (fun hk3 hst e => ?_)
  all_goals
    clear key
    have E := hidd e
    clear e
    go_enter Tryz.func17, Tryz.ntmps17
    go_wp2_with fail
    go_loopw [7, 24] (fun v i wr => ∃ (j : Nat) (es : List (Dat × Option Addr × Nat)), j ≤ ks.length ∧ i = .int .i64 j ∧ Hid (RS w ⟨k, n, nm', st, lb, ks⟩ (.slice a ks.length cap) (renD s t) (ks.take j) v es wr)) (fun _ i _ => ks.length - (intOf i).toNat)
    case atStart => exact ⟨0, [], Nat.zero_le _, rfl, by first | exact S2.out E.out | exact S3.out E.out⟩
    case round =>
      clear S2 S3
      obtain ⟨j, es, hj, rfl, HR⟩ := hrel
      have HES : Hid (es.length = j) := by
        show _ = _
        have := congrArg List.length HR.out.same
        simp at this
        omega
      have lo := HR.out.out.lt
      by_cases hlt : j < ks.length
      · obtain ⟨kid, hkid⟩ : ∃ kid, ks[j]? = some kid := ⟨ks[j], List.getElem?_eq_getElem hlt⟩
        have hne : ks ≠ [] := by intro e; rw [e] at hlt; simp at hlt
        obtain ⟨g', b, o, hg, ha, hbB, hall⟩ := HL.out.at hne
        subst ha
        obtain ⟨a', cap', k0, k1, k2, k3, k4, k5, hkn, hkc, hkk⟩ := hall j kid hkid
        have hg' : g' = f := by omega
        subst hg'
        have hc : ∀ q, wr.cell? ⟨b, q, none⟩ = w.cell? ⟨b, q, none⟩ := fun q => HR.out.old.cell (p := ⟨b, q, none⟩) hbB
        have j0 := (hc _).trans k0
        have j1 := (hc _).trans k1
        have j2 := (hc _).trans k2
        have j3 := (hc _).trans k3
        have j4 := (hc _).trans k4
        have j5 := (hc _).trans k5
        have H2 := hidd (HR.out.below ((Below.refl _ _).alloc (Nat.le_refl _) (.cells #[.int .i64 kid.kind, .int .i64 kid.n, .string kid.name, .int .i64 kid.stamp, .int .i64 kid.lib, .slice a' kid.kids.length cap'] 28)))
        have CA : Hid (∀ W, Below w.heap.size w W → Calls Tryz.prog 17 #[dv kid a' cap', .string s, .string t] W (ToldO (renD s t kid) W)) := fun W hb => IH.out kid (List.mem_of_getElem? hkid) a' cap' W (Dn.lift hkk hb) (fewL_mem _ FL.out _ (List.mem_of_getElem? hkid))
        have TK : Hid ((ks.take (j + 1)).map (renD s t) = (ks.take j).map (renD s t) ++ [renD s t kid]) := by
          show _ = _
          rw [List.take_add_one, hkid]
          simp
        have HN : Hid ((renD s t kid).name.size ≤ maxLen) := by
          show _ ≤ _
          exact renD_name s t kid htm hkn
        unfold dv at CA
        clear k0 k1 k2 k3 k4 k5 hall hkk hkid hc hg hkn hkc
        go_wp2_with fail
        refine (CA.out _ H2.out.old).mono ?_
        rintro e w2 ⟨hb2, a2, cap2, f2, rfl, hcap2, hdc2⟩
        have H3 := hidd (H2.out.below hb2)
        have hs2 : wr.heap.size + 1 ≤ w2.heap.size := by have := hb2.size; simpa using this
        generalize renD s t kid = rk at TK HN hcap2 hdc2 CA
        have HD2 : Hid (rk.kids.length ≤ cap2 ∧ Dc (New wr w2) w2 f2 a2 rk.kids) := ⟨hcap2, Dc.stay (fun _ _ => rfl) (fun k hk => ⟨by have := hk.1; simp at this; omega, hk.2⟩) _ _ _ hdc2⟩
        clear hb2 hcap2 hdc2 CA H2
        obtain ⟨i0, hinf, hz0, hz1, hz2⟩ := info_parts infoDat
        unfold dv
        simp only
        go_wp2_with (at_builtin; refine wpList_append_where rfl _ _ 26 rfl (w.heap.size + 2) 28 i0 _ 6 72 Tryz.underlying26 hinf hz0 hz1 hz2 rfl (by decide) u7 es.length (flat es) rfl (by exact H3.out.row.own.alloc _) ⟨w2.heap.size, 0, none⟩ 1 1 [.int .i64 rk.kind, .int .i64 rk.n, .string rk.name, .int .i64 rk.stamp, .int .i64 rk.lib, .slice a2 rk.kids.length cap2] rfl rfl ?c1 ?c2 (by decide) ?c3 ?c4 ?c5 ?_)
        case c1 =>
          intro q u hq
          have hcell := World.cell?_alloc_mark w2 #[.int .i64 rk.kind, .int .i64 rk.n, .string rk.name, .int .i64 rk.stamp, .int .i64 rk.lib, .slice a2 rk.kids.length cap2] 28 (0, 0) q
          have hadd := addr_add w2.heap.size q
          rw [hadd, hcell]
          simpa using hq
        case c2 =>
          intro u hu
          simp at hu
          rcases hu with rfl | rfl | rfl | rfl | rfl | rfl <;> rfl
        case c3 => have := HES.out; unfold maxLen; omega
        case c4 => have := HES.out; omega
        case c5 => simp; omega
        intro v' w4 hown4 hg4 hw4
        have HROW : Hid (RowC (w.heap.size + 2) v' (es ++ [(rk, a2, cap2)]) w4) :=
          RowC.push (f := f2) (wr := wr) (w := w2) _ H3.out.row (by omega) (fun k hk => (HR.out.row.own.lt k hk).2) HD2.out.2 HN.out HD2.out.1 hown4 hg4 hw4
        have hrow : ∀ k, u7.ownBlock = some k → w.heap.size + 2 ≤ k := fun k hk => (H3.out.row.own.lt k hk).1
        have H4 : Hid (RS w ⟨k, n, nm', st, lb, ks⟩ (.slice (some ⟨b, o, none⟩) ks.length cap) (renD s t) (ks.take (j + 1)) v' (es ++ [(rk, a2, cap2)]) w4) := by
          refine ⟨(H3.out.old.alloc (by omega) _).grown hg4 (by simp; omega) (fun k hk => by have := hrow k hk; omega), (H3.out.box.alloc _).grown hg4 (fun e => by have := hrow _ e.symm; omega), (H3.out.out.alloc _).grown hg4 (fun e => by have := hrow _ e.symm; omega), HROW.out, ?_⟩
          rw [TK.out, List.map_append, H3.out.same]
          rfl
        clear hown4 hg4 hw4 hrow HD2 HROW H3
        go_wp2_with fail
        go_roundw
        case rel => exact ⟨j + 1, _, by omega, by go_num, H4.out⟩
        case measure => simp [intOf]; omega
      · obtain rfl : j = ks.length := by omega
        obtain ⟨ao, cp, f', hv, hcp, hdc⟩ := HR.out.row.lie (by have := HES.out; omega)
        have e2 : es.map (·.1) = ks.map (renD s t) := by
          have := HR.out.same
          rwa [List.take_length] at this
        rw [e2] at hv hcp hdc
        rw [List.length_map] at hv
        subst hv
        have HD := hidd hdc
        clear hdc e2
        obtain ⟨p, p0, p1, p2, p3, p4, p5, pz⟩ := HR.out.box
        obtain ⟨q, q0, q1, q2, q3, q4, q5, qz⟩ := HR.out.out
        simp only [zeroD, emS] at p0 p1 p2 p3 p4 p5 q0 q1 q2 q3 q4 q5
        go_wp2_with fail
        have N1 := hidd (HR.out.box.set5 (.slice ao ks.length cp))
        have hke : Keep w.heap.size wr (wr.setCell ⟨w.heap.size, 5, none⟩ (.slice ao ks.length cp)) := (Keep.refl _ _).setCell _ rfl _
        have N2 := hidd ((HR.out.out.keep hke (by omega)).store ⟨k, n, nm', st, lb, ks⟩ (.slice ao ks.length cp))
        clear p p0 p1 p2 p3 p4 p5 pz q q0 q1 q2 q3 q4 q5 qz
        refine bodyPost_ret (ret17 N2.out rfl) rfl ?_
        have hb5 := HR.out.old.setCell (p := ⟨w.heap.size, 5, none⟩) (Nat.le_refl _) (.slice ao ks.length cp)
        refine ⟨below_sixN hb5 (by omega) _ _ _ _ _ _, ao, cp, f', by simp [dv], hcp, ?_⟩
        have hh := six_heap (wr.setCell ⟨w.heap.size, 5, none⟩ (.slice ao ks.length cp)) (w.heap.size + 1) (.int .i64 k) (.int .i64 n) (.string nm') (.int .i64 st) (.int .i64 lb) (.slice ao ks.length cp)
        refine Dc.stay (fun b hb => ?_) (fun b hb => ?_) _ _ _ HD.out
        · exact (hh.1 b (by have := hb.1; omega)).trans (Below.heap_setCell _ _ _ _ (by have := hb.1; show b ≠ w.heap.size; omega))
        · refine ⟨by have := hb.1; omega, ?_⟩
          rw [hh.2]
          simpa [World.setCell] using hb.2

/-- ONE NAME FOR ANOTHER. -/
theorem renamed_any (s t : ByteArray) (htm : t.size ≤ maxLen) : ∀ (f : Nat) (d : Dat) (a : Option Addr) (cap : Nat) (w : World), Dn w f a d.kids → fewD d → Calls Tryz.prog 17 #[dv d a cap, .string s, .string t] w (ToldO (renD s t d) w) := by
  intro f
  induction f with
  | zero =>
    intro d a cap w hl hf
    refine renamed_step 0 s t d a cap w (hl.upto 1) hf htm fun d' hd => ?_
    rw [show d.kids = [] from hl] at hd
    cases hd
  | succ f ih =>
    intro d a cap w hl hf
    exact renamed_step f s t d a cap w hl hf htm fun d' hd a cap w h1 h2 => ih d' a cap w h1 h2
end
end Go.Proofs.YtgeedaabdonjcaeGreatDoor
