/- Chapter 3: rows of data of one's own, whose kids lie in such blocks; what Show makes of a name, of a list. Small words for walks through regions that draw their order. -/
import Derived.Test.YtonafbennobgdaaGreatDoorK15
import Derived.Test.YtonafbennobgdaaGreatDoorK17
import Derived.Test.YtonafbennobgdaaGreatDoorK31
import Derived.Test.YtonafbennobgdaaGreatDoorK38
namespace Go.Proofs.YtonafbennobgdaaGreatDoor
set_option linter.unusedVariables false
set_option linter.unusedSimpArgs false
section
open Go.RowKit
set_option maxRecDepth 100000
set_option maxHeartbeats 3200000

structure RowE (ok : Nat → Prop) (B : Nat) (v : Value) (es : List (Dat × Option Addr × Nat)) (w : World) : Prop where
 own : w.ownsRow B 26 6 v es.length (flat es)
 kids : ∀ e ∈ es, e.1.name.size ≤ maxLen ∧ e.1.kids.length ≤ e.2.2 ∧ ∃ f, Dc (fun b => ok b ∧ b < w.heap.size ∧ some b ≠ v.ownBlock) w f e.2.1 e.1.kids
def DE (ok : Nat → Prop) (w : World) (d : Dat) (a : Option Addr) (c : Nat) : Prop := d.name.size ≤ maxLen ∧ d.kids.length ≤ c ∧ ∃ f, Dc (fun b => ok b ∧ b < w.heap.size) w f a d.kids
theorem DE.lift {ok : Nat → Prop} {w w' : World} {d : Dat} {a : Option Addr} {c : Nat} (h : DE ok w d a c) (hb : Below w.heap.size w w') : DE ok w' d a c := by
 obtain ⟨h1, h2, f, h3⟩ := h
 exact ⟨h1, h2, f, Dc.stay (fun k hk => hb.block k hk.2) (fun k hk => ⟨hk.1, Nat.lt_of_lt_of_le hk.2 hb.size⟩) _ _ _ h3⟩
theorem DE.to {ok ok' : Nat → Prop} {w : World} {d : Dat} {a : Option Addr} {c : Nat} (h : DE ok w d a c) (hk : ∀ k, ok k → k < w.heap.size → ok' k) : DE ok' w d a c := by
 obtain ⟨h1, h2, f, h3⟩ := h
 exact ⟨h1, h2, f, Dc.stay (fun _ _ => rfl) (fun k h => ⟨hk k h.1 h.2, h.2⟩) _ _ _ h3⟩
theorem DE.sym (ok : Nat → Prop) (w : World) {s : ByteArray} (h : s.size ≤ maxLen) : DE ok w (syD s) none 0 := ⟨h, Nat.le_refl _, 0, rfl⟩
theorem RowE.nil (ok : Nat → Prop) (B : Nat) (w : World) : RowE ok B (.slice none 0 0) [] w := ⟨World.ownsRow_nil _ _ _ _, by simp⟩
theorem RowE.d {ok : Nat → Prop} {B : Nat} {v : Value} {es : List (Dat × Option Addr × Nat)} {w : World} (h : RowE ok B v es w) : RowD B v es w :=
 ⟨h.own, fun e he => by
  obtain ⟨h1, h2, f, h3⟩ := h.kids e he
  exact ⟨h1, h2, f, Dc.stay (fun _ _ => rfl) (fun k hk => hk.2) _ _ _ h3⟩⟩
theorem RowE.below {ok : Nat → Prop} {B : Nat} {v : Value} {es : List (Dat × Option Addr × Nat)} {w w' : World} (h : RowE ok B v es w) (hk : Below w.heap.size w w') : RowE ok B v es w' := by
 refine ⟨(h.d.below hk).own, fun e he => ?_⟩
 obtain ⟨h1, h2, f, h3⟩ := h.kids e he
 exact ⟨h1, h2, f, Dc.stay (fun k h => hk.block k h.2.1) (fun k h => ⟨h.1, Nat.lt_of_lt_of_le h.2.1 hk.size, h.2.2⟩) _ _ _ h3⟩
theorem RowE.to {ok ok' : Nat → Prop} {B : Nat} {v : Value} {es : List (Dat × Option Addr × Nat)} {w : World} (h : RowE ok B v es w) (hk : ∀ k, ok k → k < w.heap.size → ok' k) : RowE ok' B v es w :=
 ⟨h.own, fun e he => by
  obtain ⟨h1, h2, f, h3⟩ := h.kids e he
  exact ⟨h1, h2, f, Dc.stay (fun _ _ => rfl) (fun k h => ⟨hk k h.1 h.2.1, h.2⟩) _ _ _ h3⟩⟩
theorem RowE.low {ok : Nat → Prop} {B B' : Nat} {v : Value} {es : List (Dat × Option Addr × Nat)} {w : World} (h : RowE ok B v es w) (hb : B' ≤ B) : RowE ok B' v es w := ⟨own_base h.own hb, h.kids⟩
theorem RowE.keep {ok : Nat → Prop} {B rb : Nat} {v : Value} {es : List (Dat × Option Addr × Nat)} {w w' : World} (h : RowE ok B v es w) (hk : Keep rb w w') (hrb : v.ownBlock ≠ some rb) (hne : ∀ k, ok k → k ≠ rb) : RowE ok B v es w' := by
 refine ⟨h.own.kept hk ?_, fun e he => ?_⟩
 ·cases hv : v.ownBlock with
  | none => exact Or.inl rfl
  | some k => exact Or.inr (fun e => hrb (hv.trans e))
 ·obtain ⟨hn, hc, f, hd⟩ := h.kids e he
  refine ⟨hn, hc, f, Dc.stay ?_ ?_ f _ _ hd⟩
  ·intro k hk2
   exact hk.block k hk2.2.1 (fun e => hne k hk2.1 (Option.some.inj e))
  ·intro k hk2
   exact ⟨hk2.1, Nat.lt_of_lt_of_le hk2.2.1 hk.size, hk2.2.2⟩
theorem RowE.lie {ok ok' : Nat → Prop} {B : Nat} {v : Value} {es : List (Dat × Option Addr × Nat)} {w : World} (h : RowE ok B v es w) (hlen : es.length ≤ 9223372036854775807) (hk : ∀ k, ok k → ok' k) (hB : ∀ k, B ≤ k → k < w.heap.size → ok' k) : ∃ a cap f, v = .slice a (es.map (·.1)).length cap ∧ (es.map (·.1)).length ≤ cap ∧ Dc (fun b => ok' b ∧ b < w.heap.size) w f a (es.map (·.1)) :=
 h.d.lieG hlen (fun b => ok' b ∧ b < w.heap.size) (fun g hg => ⟨hB g (h.own.lt g hg).1 (h.own.lt g hg).2, (h.own.lt g hg).2⟩) (fun e he => by
  obtain ⟨_, _, f, h3⟩ := h.kids e he
  exact ⟨f, Dc.stay (fun _ _ => rfl) (fun k h => ⟨hk k h.1, h.2.1⟩) _ _ _ h3⟩)
theorem RowE.made (ok : Nat → Prop) (W : World) (es : List (Dat × Option Addr × Nat)) (hl : es.length ≤ maxLen) (h : ∀ e ∈ es, DE ok W e.1 e.2.1 e.2.2) :
  RowE ok W.heap.size (.slice (some ⟨W.heap.size, 0, none⟩) es.length es.length) es (W.alloc (.cells (flat es).toArray 26)) := by
 refine ⟨(RowD.made W es hl (fun e he => ?_)).own, fun e he => ?_⟩
 ·obtain ⟨h1, h2, f, h3⟩ := h e he
  exact ⟨h1, h2, f, Dc.stay (fun _ _ => rfl) (fun k h => h.2) _ _ _ h3⟩
 ·obtain ⟨h1, h2, f, h3⟩ := h e he
  refine ⟨h1, h2, f, Dc.stay (fun k hk => Below.heap_alloc _ _ _ hk.2) (fun k hk => ⟨hk.1, by simp; exact Nat.lt_succ_of_lt hk.2, fun e => ?_⟩) _ _ _ h3⟩
  have h9 := Option.some.inj e
  simp only at h9
  have := hk.2
  omega
theorem RowE.more {ok : Nat → Prop} {B : Nat} {v v' : Value} {es fs : List (Dat × Option Addr × Nat)} {w1 w' : World} (h : RowE ok B v es w1)
  (hd : ∀ e ∈ fs, e.1.name.size ≤ maxLen ∧ e.1.kids.length ≤ e.2.2 ∧ ∃ f, Dc (fun b => ok b ∧ b < w1.heap.size ∧ some b ≠ v.ownBlock) w1 f e.2.1 e.1.kids)
  (hown : w'.ownsRow B 26 6 v' (es.length + fs.length) (flat es ++ flat fs))
  (hg : w1.grownBy w' v.ownBlock) (hw : v'.ownBlock = v.ownBlock ∨ v'.ownBlock = some w1.heap.size) : RowE ok B v' (es ++ fs) w' := by
 have hnew : ∀ k, k < w1.heap.size → some k ≠ v.ownBlock → some k ≠ v'.ownBlock := by
  intro k hk hne
  rcases hw with e | e
  ·rw [e]; exact hne
  ·rw [e]
   intro e2
   have := Option.some.inj e2
   omega
 refine ⟨?_, fun e he => ?_⟩
 ·rw [show flat (es ++ fs) = flat es ++ flat fs by simp [flat], List.length_append]
  exact hown
 ·have hx : e.1.name.size ≤ maxLen ∧ e.1.kids.length ≤ e.2.2 ∧ ∃ f, Dc (fun b => ok b ∧ b < w1.heap.size ∧ some b ≠ v.ownBlock) w1 f e.2.1 e.1.kids := by
   rcases List.mem_append.1 he with he | he
   ·exact h.kids e he
   ·exact hd e he
  obtain ⟨hn, hc, f, hd⟩ := hx
  exact ⟨hn, hc, f, Dc.stay (fun k hk => hg.block k hk.2.1 hk.2.2) (fun k hk => ⟨hk.1, Nat.lt_of_lt_of_le hk.2.1 hg.size, hnew k hk.2.1 hk.2.2⟩) f _ _ hd⟩
theorem run_rowE {w : World} (ty : TypeId) {ok : Nat → Prop} {B : Nat} {v : Value} {es : List (Dat × Option Addr × Nat)} (hv : RowE ok B v es w) {F : Nat} {a : Option Addr} {l : List Dat} {cap : Nat}
  (hd : Dc (fun b => ok b ∧ b < w.heap.size ∧ some b ≠ v.ownBlock) w F a l) (hBw : B ≤ w.heap.size) (hl : (es.length + l.length) * 72 ≤ 140737488355328) :
  ∃ v' w' fs, (Builtin.append_ #[24, 24] ty #[v, .slice a l.length cap]).run Tryz.prog w = .ok v' w' ∧ fs.map (·.1) = l ∧ RowE ok B v' (es ++ fs) w' ∧ Below B w w' ∧ (v'.ownBlock = v.ownBlock ∨ v'.ownBlock = some w.heap.size) ∧ w.grownBy w' v.ownBlock := by
 obtain ⟨i0, hinf, hz0, hz1, hz2⟩ := info_parts infoDat
 by_cases hl0 : l = []
 ·subst hl0
  obtain ⟨va, vc, f0, hva, hvc, _⟩ := hv.d.lie (by omega)
  rw [List.length_map] at hva hvc
  subst hva
  have hr2 : (Builtin.append_ #[24, 24] ty #[.slice va es.length vc, .slice a 0 cap]).run Tryz.prog w = .ok (.slice va es.length vc) w := by
   refine run_append_nothing w 24 24 ty 26 i0 Tryz.underlying24 hinf va es.length vc hvc (.slice a 0 cap) ?_
   cases a with
   | none => exact Src.ofNil w Tryz.underlying24 cap
   | some a => exact Src.ofSlice w Tryz.underlying24 a 0 cap [] (by simp) (by simp) (by simp)
  exact ⟨_, _, [], hr2, rfl, by rw [List.append_nil]; exact hv, Below.refl _ _, Or.inl rfl, World.grownBy.refl _ _⟩
 ·obtain ⟨f', b, oo, fs, rfl, hb, hes, hcell, hall⟩ := hd.entsX hl0
  have hlen : fs.length = l.length := by rw [← hes, List.length_map]
  obtain ⟨v', w', hr, h2, h3, h4⟩ := run_append_where (P := Tryz.prog) w B 24 ty 26 i0 _ 6 72 Tryz.underlying24 hinf hz0 hz1 hz2 rfl (by decide) v es.length (flat es) hv.own ⟨b, oo, none⟩ l.length cap (flat fs) (by rw [flat_len, hlen]) (by
   intro j u hu
   have hadd : (⟨b, oo, none⟩ : Addr).add j = ⟨b, oo + j, none⟩ := by unfold Addr.add; split <;> simp_all
   rw [hadd]
   exact hcell j u hu) (flat_one fs) (List.length_pos_iff.2 hl0) (by unfold maxLen; omega) hl hBw
  exact ⟨v', w', fs, hr, hes, hv.more (fun e he => by
   obtain ⟨g1, g2, g3⟩ := hall e he
   exact ⟨g1, g2, f', g3⟩) (by rw [hlen]; exact h2) h3 h4, (Below.refl B w).grown h3 hBw (fun k hk => (hv.own.lt k hk).1), h4, h3⟩
theorem wpList_rowE {w : World} {ops : Array Oper} {rest : List Oper} {o : Oper} {act : Act} {Q : Exit → Act → World → Prop} (hgd : o.guard = none) (s x : Operand)
  (ho : o.op = .call { callee := .builtin .append, args := #[s, x], argTypes := #[24, 24] })
  {ok : Nat → Prop} {B : Nat} {v : Value} {es : List (Dat × Option Addr × Nat)} (hv : RowE ok B v es w) {F : Nat} {a : Option Addr} {l : List Dat} {cap : Nat}
  (hs : act.eval s = v) (hx : act.eval x = .slice a l.length cap)
  (hd : Dc (fun b => ok b ∧ b < w.heap.size ∧ some b ≠ v.ownBlock) w F a l) (hBw : B ≤ w.heap.size) (hl : (es.length + l.length) * 72 ≤ 140737488355328)
  (h : ∀ v' w' fs, fs.map (·.1) = l → RowE ok B v' (es ++ fs) w' → Below B w w' → (v'.ownBlock = v.ownBlock ∨ v'.ownBlock = some w.heap.size) → w.grownBy w' v.ownBlock → wpList Tryz.prog ops Q rest (act.put o.dst v') w') : wpList Tryz.prog ops Q (o :: rest) act w := by
 refine wpList_plain hgd fun _ hK => ?_
 obtain ⟨v', w', fs, hrun, h2, h3, h4, h5, h6⟩ := run_rowE o.type hv (cap := cap) hd hBw hl
 unfold Oper.wp execOp
 simp only [ho, resolve, invoke, builtin, Sem.run_bind, Sem.run_pure, Result.andThen_ok, List.map_toArray, List.map_cons, List.map_nil, hs, hx, hrun]
 exact hK _ _ (h v' w' fs h2 h3 h4 h5 h6)
theorem step_rowE {ops : Array Oper} {o : Oper} {act : Act} {K : Act → World → Prop} {Q : Exit → Act → World → Prop} {E : Prop} (hgd : o.guard = none) (s x : Operand)
  (ho : o.op = .call { callee := .builtin .append, args := #[s, x], argTypes := #[24, 24] })
  {w : World} {ok : Nat → Prop} {B : Nat} {v : Value} {es : List (Dat × Option Addr × Nat)} (hv : RowE ok B v es w) {F : Nat} {a : Option Addr} {l : List Dat} {cap : Nat}
  (hs : act.eval s = v) (hx : act.eval x = .slice a l.length cap)
  (hd : Dc (fun b => ok b ∧ b < w.heap.size ∧ some b ≠ v.ownBlock) w F a l) (hBw : B ≤ w.heap.size) (hl : (es.length + l.length) * 72 ≤ 140737488355328)
  (h : ∀ v' w' fs, fs.map (·.1) = l → RowE ok B v' (es ++ fs) w' → Below B w w' → (v'.ownBlock = v.ownBlock ∨ v'.ownBlock = some w.heap.size) → w.grownBy w' v.ownBlock → K (act.put o.dst v') w') :
  if Region.wanted o (yielded ops act.tmps) = true then Oper.wp Tryz.prog o act w K Q else E := by
 have hw : Region.wanted o (yielded ops act.tmps) = true := by simp [Region.wanted, hgd]
 rw [if_pos hw]
 obtain ⟨v', w', fs, hrun, h2, h3, h4, h5, h6⟩ := run_rowE o.type hv (cap := cap) hd hBw hl
 unfold Oper.wp execOp
 simp only [ho, resolve, invoke, builtin, Sem.run_bind, Sem.run_pure, Result.andThen_ok, List.map_toArray, List.map_cons, List.map_nil, hs, hx, hrun]
 exact h v' w' fs h2 h3 h4 h5 h6
theorem ret67 {ts : Array Value} {W : World} {R : Nat} {d : Dat} {v : Value} (h : Nod R d v W) (h6 : ts[2]? = some (.pointer (some ⟨R, 0, none⟩))) :
  (results Tryz.f67 ts).run Tryz.prog W = .ok (.agg #[.int .i64 d.kind, .int .i64 d.n, .string d.name, .int .i64 d.stamp, .int .i64 d.lib, v]) W := by
 obtain ⟨q, q0, q1, q2, q3, q4, q5, qz⟩ := h
 simp [results, Tryz.results67, go_sem, h6, q0, q1, q2, q3, q4, q5]
theorem symbol67 (s : ByteArray) (w : World) (hs : s.size ≤ 281474976710656) : Calls Tryz.prog 67 #[.string s] w fun e w' => e = .returned (dv (syD s) none 0) ∧ Below w.heap.size w w' := by
 have HC : Hid (∀ W, Calls Tryz.prog 89 #[.string s] W fun e w' => e = .returned (.string s) ∧ Below W.heap.size W w') := fun W => cloneT_any s W hs
 obtain ⟨W1, hW1⟩ : ∃ W1, W1 = w.alloc (.cells #[.int .i64 0, .int .i64 0, .string ⟨#[]⟩, .int .i64 0, .int .i64 0, .slice none 0 0] 26) := ⟨_, rfl⟩
 have hb1 : Below w.heap.size w W1 := by rw [hW1]; exact (Below.refl _ _).alloc (Nat.le_refl _) _
 have N1 : Hid (Nod w.heap.size ⟨0, 0, ⟨#[]⟩, 0, 0, []⟩ (.slice none 0 0) W1) := by rw [hW1]; exact Nod.made w ⟨0, 0, ⟨#[]⟩, 0, 0, []⟩ (.slice none 0 0)
 have HB1 := hidd hb1
 have HW := hidd hW1.symm
 clear hs hW1 hb1
 go_enter Tryz.func67, Tryz.ntmps67
 go_upto_region 1 with fail
 rw [HW.out]
 clear HW
 go_wp2_with fail
 refine (HC.out W1).mono ?_
 rintro e w2 ⟨rfl, hb2⟩
 have N2 := N1.out.after hb2
 have HB2 : Hid (Below w.heap.size w w2) := HB1.out.trans (hb2.mono HB1.out.size)
 have NH := hidd N2
 obtain ⟨q, q0, q1, q2, q3, q4, q5, qz⟩ := N2
 simp only at q0 q1 q2 q3 q4 q5
 clear hb2 HC
 go_wp2_with fail
 refine bodyPost_ret (ret67 (NH.out.store (syD s) (.slice none 0 0)) rfl) rfl ?_
 exact ⟨rfl, below_sixN HB2.out (Nat.le_refl _) _ _ _ _ _ _⟩
theorem ret66 {ts : Array Value} {W : World} {R : Nat} {d : Dat} {v : Value} (h : Nod R d v W) (h6 : ts[4]? = some (.pointer (some ⟨R, 0, none⟩))) :
  (results Tryz.f66 ts).run Tryz.prog W = .ok (.agg #[.int .i64 d.kind, .int .i64 d.n, .string d.name, .int .i64 d.stamp, .int .i64 d.lib, v]) W := by
 obtain ⟨q, q0, q1, q2, q3, q4, q5, qz⟩ := h
 simp [results, Tryz.results66, go_sem, h6, q0, q1, q2, q3, q4, q5]
def dvK (a : Option Addr) (n c : Nat) : Value := .agg #[.int .i64 4, .int .i64 0, .string ⟨#[]⟩, .int .i64 0, .int .i64 0, .slice a n c]
def TellR (ok : Nat → Prop) (ks : List Dat) (w : World) (e : Ending) (w' : World) : Prop := Below w.heap.size w w' ∧ ∃ a c es, e = .returned (dvK a es.length c) ∧ es.map (·.1) = ks ∧ RowE ok w.heap.size (.slice a es.length c) es w'
theorem list66 (ok : Nat → Prop) (d : Dat) (da : Option Addr) (dc : Nat) (l : List Dat) (a : Option Addr) (cap F : Nat) (w : World) (h1 : DE ok w d da dc) (hd : Dc (fun b => ok b ∧ b < w.heap.size) w F a l) (hl : l.length ≤ 10000000) :
  Calls Tryz.prog 66 #[dv d da dc, .slice a l.length cap] w (TellR (fun b => ok b ∧ b < w.heap.size) (d :: l) w) := by
 have N0 : Hid (Nod (w.alloc (.cells #[.int .i64 d.kind, .int .i64 d.n, .string d.name, .int .i64 d.stamp, .int .i64 d.lib, .slice da d.kids.length dc] 26)).heap.size ⟨0, 0, ⟨#[]⟩, 0, 0, []⟩ (.slice none 0 0) _) := Nod.made (w.alloc (.cells #[.int .i64 d.kind, .int .i64 d.n, .string d.name, .int .i64 d.stamp, .int .i64 d.lib, .slice da d.kids.length dc] 26)) ⟨0, 0, ⟨#[]⟩, 0, 0, []⟩ (.slice none 0 0)
 obtain ⟨W1, hW1⟩ : ∃ W1, W1 = (w.alloc (.cells #[.int .i64 d.kind, .int .i64 d.n, .string d.name, .int .i64 d.stamp, .int .i64 d.lib, .slice da d.kids.length dc] 26)).alloc (.cells #[.int .i64 0, .int .i64 0, .string ⟨#[]⟩, .int .i64 0, .int .i64 0, .slice none 0 0] 26) := ⟨_, rfl⟩
 have hb1 : Below w.heap.size w W1 := by rw [hW1]; exact ((Below.refl _ _).alloc (Nat.le_refl _) _).alloc (by simp) _
 have hsz : W1.heap.size = w.heap.size + 2 := by rw [hW1]; simp
 have bx : W1.heap[w.heap.size]? = some (.cells #[.int .i64 d.kind, .int .i64 d.n, .string d.name, .int .i64 d.stamp, .int .i64 d.lib, .slice da d.kids.length dc] 26 (0, 0)) := by rw [hW1, Below.heap_alloc _ _ _ (by simp)]; exact World.alloc_heap_new w _
 have N1 : Hid (Nod (w.heap.size + 1) ⟨0, 0, ⟨#[]⟩, 0, 0, []⟩ (.slice none 0 0) W1) := by
  show Nod _ _ _ _
  rw [hW1]
  have := N0.out
  simpa using this
 have HB1 : Hid (Below w.heap.size w W1 ∧ W1.heap.size = w.heap.size + 2) := ⟨hb1, hsz⟩
 have HD : Hid (∀ W, Below w.heap.size w W → Dc (fun b => ok b ∧ b < w.heap.size) W F a l) := fun W hb => Dc.stay (fun k hk => hb.block k hk.2) (fun _ h => h) _ _ _ hd
 have HL := hidd hl
 have RM : Hid (RowE (fun b => ok b ∧ b < w.heap.size) W1.heap.size (.slice (some ⟨W1.heap.size, 0, none⟩) 1 1) [(d, da, dc)] (W1.alloc (.cells #[.int .i64 d.kind, .int .i64 d.n, .string d.name, .int .i64 d.stamp, .int .i64 d.lib, .slice da d.kids.length dc] 26))) := RowE.made (fun b => ok b ∧ b < w.heap.size) W1 [(d, da, dc)] (by simp [maxLen]) (fun e he => by
  simp at he
  subst he
  obtain ⟨g1, g2, f, g3⟩ := h1
  exact ⟨g1, g2, f, Dc.stay (fun k hk => hb1.block k hk.2) (fun k hk => ⟨hk, Nat.lt_of_lt_of_le hk.2 hb1.size⟩) _ _ _ g3⟩)
 have B3 : Hid (Below W1.heap.size W1 (W1.alloc (.cells #[.int .i64 d.kind, .int .i64 d.n, .string d.name, .int .i64 d.stamp, .int .i64 d.lib, .slice da d.kids.length dc] 26))) := (Below.refl _ _).alloc (Nat.le_refl _) _
 obtain ⟨n, hn⟩ : ∃ n, n = l.length := ⟨_, rfl⟩
 rw [← hn] at ⊢
 have HN := hidd hn
 have HW := hidd hW1.symm
 have m0 : W1.cell? ⟨w.heap.size, 0, none⟩ = some _ := (cellO bx).trans rfl
 have m1 : W1.cell? ⟨w.heap.size, 1, none⟩ = some _ := (cellO bx).trans rfl
 have m2 : W1.cell? ⟨w.heap.size, 2, none⟩ = some _ := (cellO bx).trans rfl
 have m3 : W1.cell? ⟨w.heap.size, 3, none⟩ = some _ := (cellO bx).trans rfl
 have m4 : W1.cell? ⟨w.heap.size, 4, none⟩ = some _ := (cellO bx).trans rfl
 have m5 : W1.cell? ⟨w.heap.size, 5, none⟩ = some _ := (cellO bx).trans rfl
 clear h1 hd hl N0 hW1 hb1 hsz hn bx
 unfold dv
 go_enter Tryz.func66, Tryz.ntmps66
 go_upto_region 1 with fail
 rw [HW.out]
 clear HW
 go_wp2_with (at_builtin; refine wpList_rowE rfl _ _ rfl (ok := fun b => ok b ∧ b < w.heap.size) (B := W1.heap.size) (v := .slice (some ⟨W1.heap.size, 0, none⟩) 1 1) (es := [(d, da, dc)]) (by exact RM.out) (F := F) (a := a) (l := l) (cap := cap) rfl (by rw [← HN.out]; rfl) (Dc.stay (fun _ _ => rfl) (fun k hk => ⟨hk, by have := HB1.out.2; have := B3.out.size; have := hk.2; omega, fun e => by have h1 := HB1.out.2; have h2 := hk.2; have h3 : k = W1.heap.size := (by simpa [Value.ownBlock] using e); omega⟩) _ _ _ (HD.out _ (HB1.out.1.trans (B3.out.mono HB1.out.1.size)))) B3.out.size (by have := HL.out; simp; omega) ?_)
 intro v' w4 fs hfs hr4 hb4 hwo4 hg4
 obtain ⟨es, hes⟩ : ∃ es, es = (d, da, dc) :: fs := ⟨_, rfl⟩
 have hr5 : RowE (fun b => ok b ∧ b < w.heap.size) W1.heap.size v' es w4 := by rw [hes]; exact hr4
 have hem : es.map (·.1) = d :: l := by rw [hes, ← hfs]; rfl
 obtain ⟨va, vc, vf, hva, hvc, hdd⟩ := hr5.lie (ok' := fun _ => True) (by have h1 := congrArg List.length hem; have h2 := HL.out; rw [List.length_map] at h1; simp at h1; omega) (fun _ _ => trivial) (fun _ _ _ => trivial)
 rw [List.length_map] at hva
 subst hva
 have G4 : Hid (Below w.heap.size w w4 ∧ Below W1.heap.size W1 w4) := by
  have h1 : Below W1.heap.size W1 w4 := B3.out.trans hb4
  exact ⟨HB1.out.1.trans (h1.mono HB1.out.1.size), h1⟩
 have R4 : Hid (RowE (fun b => ok b ∧ b < w.heap.size) W1.heap.size (.slice va es.length vc) es w4 ∧ es.map (·.1) = d :: l) := ⟨hr5, hem⟩
 have N4 : Nod (w.heap.size + 1) ⟨0, 0, ⟨#[]⟩, 0, 0, []⟩ (.slice none 0 0) w4 := N1.out.after G4.out.2
 have NH := hidd N4
 obtain ⟨q, q0, q1, q2, q3, q4, q5, qz⟩ := N4
 simp only at q0 q1 q2 q3 q4 q5
 obtain ⟨m, hm⟩ : ∃ m, m = es.length := ⟨_, rfl⟩
 rw [← hm]
 have HM := hidd hm
 clear hr4 hr5 hb4 hwo4 hg4 hfs hvc hdd hes hem hm RM B3 m0 m1 m2 m3 m4 m5
 go_wp2_with fail
 refine bodyPost_ret (ret66 (NH.out.store (liD (d :: l)) (.slice va m vc)) rfl) rfl ?_
 refine ⟨below_sixN G4.out.1 (Nat.le_succ _) _ _ _ _ _ _, va, vc, es, by rw [← HM.out]; rfl, R4.out.2, ?_⟩
 have hr := R4.out.1
 rw [← HM.out] at hr ⊢
 exact (hr.keep (((((((Keep.refl (w.heap.size + 1) w4).setCell ⟨w.heap.size + 1, 0, none⟩ rfl _).setCell ⟨w.heap.size + 1, 1, none⟩ rfl _).setCell ⟨w.heap.size + 1, 2, none⟩ rfl _).setCell ⟨w.heap.size + 1, 3, none⟩ rfl _).setCell ⟨w.heap.size + 1, 4, none⟩ rfl _).setCell ⟨w.heap.size + 1, 5, none⟩ rfl _) (fun e => by have h1 := (hr.own.lt _ e).1; have := HB1.out.2; omega) (fun k hk => by have := hk.2; omega)).low (by have := HB1.out.1.size; exact this)
end
section
open Go.RowKit

theorem upD {ok : Nat → Prop} {w w' : World} {a : Option Addr} {l : List Dat} (h : ∃ f, Dc (fun b => ok b ∧ b < w.heap.size) w f a l) (hb : Below w.heap.size w w') : ∃ f, Dc (fun b => ok b ∧ b < w'.heap.size) w' f a l := by
 obtain ⟨f, hf⟩ := h
 exact ⟨f, Dc.stay (fun k hk => hb.block k hk.2) (fun k hk => ⟨hk.1, Nat.lt_of_lt_of_le hk.2 hb.size⟩) _ _ _ hf⟩
theorem toD {ok ok' : Nat → Prop} {w : World} {a : Option Addr} {l : List Dat} (h : ∃ f, Dc (fun b => ok b ∧ b < w.heap.size) w f a l) (hk : ∀ k, ok k → k < w.heap.size → ok' k) : ∃ f, Dc (fun b => ok' b ∧ b < w.heap.size) w f a l := by
 obtain ⟨f, hf⟩ := h
 exact ⟨f, Dc.stay (fun _ _ => rfl) (fun k h => ⟨hk k h.1 h.2, h.2⟩) _ _ _ hf⟩
theorem six_at {w : World} {N : Nat} {c0 c1 c2 c3 c4 c5 : Value} {t : TypeId} (h : w.heap[N]? = some (.cells #[c0, c1, c2, c3, c4, c5] t (0, 0))) :
  w.cell? ⟨N, 0, none⟩ = some c0 ∧ w.cell? ⟨N, 1, none⟩ = some c1 ∧ w.cell? ⟨N, 2, none⟩ = some c2 ∧ w.cell? ⟨N, 3, none⟩ = some c3 ∧ w.cell? ⟨N, 4, none⟩ = some c4 ∧ w.cell? ⟨N, 5, none⟩ = some c5 :=
 ⟨(cellO h).trans rfl, (cellO h).trans rfl, (cellO h).trans rfl, (cellO h).trans rfl, (cellO h).trans rfl, (cellO h).trans rfl⟩
theorem six_fz {w : World} {N : Nat} {cs : Array Value} {t : TypeId} (h : w.heap[N]? = some (.cells cs t (0, 0))) :
  w.frozen? ⟨N, 0, none⟩ = false ∧ w.frozen? ⟨N, 1, none⟩ = false ∧ w.frozen? ⟨N, 2, none⟩ = false ∧ w.frozen? ⟨N, 3, none⟩ = false ∧ w.frozen? ⟨N, 4, none⟩ = false ∧ w.frozen? ⟨N, 5, none⟩ = false :=
 ⟨looseO h, looseO h, looseO h, looseO h, looseO h, looseO h⟩
theorem store6 {w : World} {N B : Nat} {c0 c1 c2 c3 c4 c5 : Value} (h : w.heap[N]? = some (.cells #[c0, c1, c2, c3, c4, c5] 26 (0, 0))) (hB : B ≤ N) (v0 v1 v2 v3 v4 v5 : Value) :
  ((((((w.setCell ⟨N, 0, none⟩ v0).setCell ⟨N, 1, none⟩ v1).setCell ⟨N, 2, none⟩ v2).setCell ⟨N, 3, none⟩ v3).setCell ⟨N, 4, none⟩ v4).setCell ⟨N, 5, none⟩ v5).heap[N]? = some (.cells #[v0, v1, v2, v3, v4, v5] 26 (0, 0)) ∧ (∀ k, k ≠ N → ((((((w.setCell ⟨N, 0, none⟩ v0).setCell ⟨N, 1, none⟩ v1).setCell ⟨N, 2, none⟩ v2).setCell ⟨N, 3, none⟩ v3).setCell ⟨N, 4, none⟩ v4).setCell ⟨N, 5, none⟩ v5).heap[k]? = w.heap[k]?) ∧ ((((((w.setCell ⟨N, 0, none⟩ v0).setCell ⟨N, 1, none⟩ v1).setCell ⟨N, 2, none⟩ v2).setCell ⟨N, 3, none⟩ v3).setCell ⟨N, 4, none⟩ v4).setCell ⟨N, 5, none⟩ v5).heap.size = w.heap.size ∧ ∀ u, Below B u w → Below B u ((((((w.setCell ⟨N, 0, none⟩ v0).setCell ⟨N, 1, none⟩ v1).setCell ⟨N, 2, none⟩ v2).setCell ⟨N, 3, none⟩ v3).setCell ⟨N, 4, none⟩ v4).setCell ⟨N, 5, none⟩ v5) :=
 ⟨set6 h v0 v1 v2 v3 v4 v5, fun k hk => six_far hk _ _ _ _ _ _, by simp, fun u hu => (((((hu.setCell (p := ⟨N, 0, none⟩) hB _).setCell (p := ⟨N, 1, none⟩) hB _).setCell (p := ⟨N, 2, none⟩) hB _).setCell (p := ⟨N, 3, none⟩) hB _).setCell (p := ⟨N, 4, none⟩) hB _).setCell (p := ⟨N, 5, none⟩) hB _⟩
theorem store6K {K : Act → World → Prop} {a : Act} {w : World} {N B : Nat} {c0 c1 c2 c3 c4 c5 v0 v1 v2 v3 v4 v5 : Value} (h : w.heap[N]? = some (.cells #[c0, c1, c2, c3, c4, c5] 26 (0, 0))) (hB : B ≤ N)
  (k : ∀ W, W.heap[N]? = some (.cells #[v0, v1, v2, v3, v4, v5] 26 (0, 0)) → (∀ k, k ≠ N → W.heap[k]? = w.heap[k]?) → W.heap.size = w.heap.size → (∀ u, Below B u w → Below B u W) → Keep N w W → K a W) : K a ((((((w.setCell ⟨N, 0, none⟩ v0).setCell ⟨N, 1, none⟩ v1).setCell ⟨N, 2, none⟩ v2).setCell ⟨N, 3, none⟩ v3).setCell ⟨N, 4, none⟩ v4).setCell ⟨N, 5, none⟩ v5) :=
 k _ (store6 h hB v0 v1 v2 v3 v4 v5).1 (store6 h hB v0 v1 v2 v3 v4 v5).2.1 (store6 h hB v0 v1 v2 v3 v4 v5).2.2.1 (store6 h hB v0 v1 v2 v3 v4 v5).2.2.2 ((((((Keep.refl N w).setCell _ rfl _).setCell _ rfl _).setCell _ rfl _).setCell _ rfl _).setCell _ rfl _ |>.setCell _ rfl _)
theorem DE.kept {ok : Nat → Prop} {w w' : World} {d : Dat} {a : Option Addr} {c N : Nat} (h : DE ok w d a c) (hf : ∀ k, k ≠ N → w'.heap[k]? = w.heap[k]?) (hs : w'.heap.size = w.heap.size) (hn : ∀ k, ok k → k ≠ N) : DE ok w' d a c := by
 obtain ⟨h1, h2, f, h3⟩ := h
 exact ⟨h1, h2, f, Dc.stay (fun k hk => hf k (hn k hk.1)) (fun k hk => ⟨hk.1, by rw [hs]; exact hk.2⟩) _ _ _ h3⟩
end
end Go.Proofs.YtonafbennobgdaaGreatDoor
