/- Package rule set: for how many the variables stand. -/
import Derived.Test.YtceapbliljiplaeGreatDoorK23
import Derived.Test.YtceapbliljiplaeGreatDoorK22
import Derived.Laws.OwnMore
namespace Go.Proofs.YtceapbliljiplaeGreatDoor
set_option linter.unusedVariables false
set_option linter.unusedSimpArgs false
open Go.RowKit Go.Maps Go.WideMaps

/-- append(x, y...), both rows of the call's own. -/
theorem wpList_append_rows {P : Program} {w : World} {ops : Array Oper} {rest : List Oper} {o : Oper} {a : Act} {Q : Exit → Act → World → Prop} (hgd : o.guard = none) (s x : Operand) (t : TypeId)
    (ho : o.op = .call { callee := .builtin .append, args := #[s, x], argTypes := #[t, t] })
    (base : Nat) (e : TypeId) (i : TypeInfo) (z : Value) (size bytes : Nat) (ht : P.underlying t = some (.slice e)) (hi : P.info? e = some i) (hz : i.zero = some z)
    (hsize : i.size = size) (hby : i.bytes = bytes) (hzs : z.cells.size = size) (hsz : 0 < size)
    (v : Value) (n : Nat) (xs : List Value) (hs : a.eval s = v) (hown : w.ownsRow base e size v n xs)
    (base2 : Nat) (u : Value) (m : Nat) (news : List Value) (hx : a.eval x = u) (hsrc : w.ownsRow base2 e size u m news) (h1 : ∀ u ∈ news, u.oneCell' = true)
    (h63 : n + m ≤ maxLen) (hbytes : (n + m) * bytes ≤ 140737488355328) (hbase : base ≤ w.heap.size)
    (h : ∀ v' w', w'.ownsRow base e size v' (n + m) (xs ++ news) → w.grownBy w' v.ownBlock → wpList P ops Q rest (a.put o.dst v') w') : wpList P ops Q (o :: rest) a w := by
  refine wpList_plain hgd fun _ hK => ?_
  have key : ∃ v' w', (Builtin.append_ #[t, t] o.type #[v, u]).run P w = .ok v' w' ∧ w'.ownsRow base e size v' (n + m) (xs ++ news) ∧ w.grownBy w' v.ownBlock := by
    rcases hsrc.2 with ⟨rfl, rfl⟩ | ⟨g2, cap2, cur2, rfl, _⟩
    · have hn : news = [] := by
        have := hsrc.1
        rw [Nat.zero_mul] at this
        exact List.length_eq_zero_iff.1 this
      subst hn
      rw [run_append_owned_none (P := P) (w := w) base t o.type e i size ht hi v n xs hown]
      exact ⟨v, w, rfl, by simpa using hown, ⟨rfl, rfl, rfl, Nat.le_refl _, fun _ _ _ => rfl⟩⟩
    · have hcells := hsrc.cells (g := g2) rfl
      obtain ⟨v', w', hr, h2, h3, _⟩ := run_append_own (P := P) w base t o.type e i z size bytes ht hi hz hsize hby hzs hsz v n xs hown ⟨g2, 0, none⟩ m cap2 news hsrc.1 hcells h1 h63 hbytes hbase
      exact ⟨v', w', hr, h2, h3⟩
  obtain ⟨v', w', hr, h2, h3⟩ := key
  unfold Oper.wp execOp
  simp only [ho, resolve, invoke, builtin, Sem.run_bind, Sem.run_pure, Result.andThen_ok, List.map_toArray, List.map_cons, List.map_nil, hs, hx, hr]
  exact hK _ _ (h v' w' h2 h3)

/-- What a growth speaks of: its variables, what they met, stamp and lib. -/
structure Grw (gb vb mb : Nat) (sp lbb : Int) (w : World) : Prop where
  lt : gb < w.heap.size
  c1 : w.cell? ⟨gb, 1, none⟩ = some (.map (some vb))
  c2 : w.cell? ⟨gb, 2, none⟩ = some (.map (some mb))
  c3 : w.cell? ⟨gb, 3, none⟩ = some (.int .i64 sp)
  c4 : w.cell? ⟨gb, 4, none⟩ = some (.int .i64 lbb)
theorem Grw.of_block {gb vb mb : Nat} {sp lbb : Int} {w w' : World} (h : Grw gb vb mb sp lbb w) (hb : w'.heap[gb]? = w.heap[gb]?) (hs : gb < w'.heap.size) : Grw gb vb mb sp lbb w' := by
  have e : ∀ q, w'.cell? ⟨gb, q, none⟩ = w.cell? ⟨gb, q, none⟩ := fun q => World.cell?_of_block hb
  exact ⟨hs, (e _).trans h.c1, (e _).trans h.c2, (e _).trans h.c3, (e _).trans h.c4⟩
theorem Grw.below {gb vb mb : Nat} {sp lbb : Int} {w w' : World} (h : Grw gb vb mb sp lbb w) (hb : Below w.heap.size w w') : Grw gb vb mb sp lbb w' := h.of_block (hb.block gb h.lt) (Nat.lt_of_lt_of_le h.lt hb.size)

/-- What counting asks: the variables v, what they met m. -/
structure Cnt (gb vb mb nv L : Nat) (sp lbb : Int) (v : ByteArray → Nat) (m : ByteArray → List Dat) (w : World) : Prop where
  grw : Grw gb vb mb sp lbb w
  vars : MapN vb nv v w
  met : ∃ f, MapV mb L f w ∧ ∀ s, ∃ a c, f s = .slice a (m s).length c
  few : ∀ s, (m s).length ≤ 2000
theorem Cnt.below {gb vb mb nv L : Nat} {sp lbb : Int} {v : ByteArray → Nat} {m : ByteArray → List Dat} {w w' : World} (h : Cnt gb vb mb nv L sp lbb v m w) (hb : Below w.heap.size w w') : Cnt gb vb mb nv L sp lbb v m w' := by
  obtain ⟨h1, h2, ⟨f, h3, h4⟩, h5⟩ := h
  exact ⟨h1.below hb, h2.below hb, ⟨f, h3.kept (hb.block _ h3.lt), h4⟩, h5⟩

mutual
theorem cntD_len (v : ByteArray → Nat) (m : ByteArray → List Dat) : ∀ (d : Dat), (cntD v m d).length ≤ sizeD d
  | ⟨k, n, nm, st, lb, ks⟩ => by
    rw [cntD, sizeD]
    split
    · split <;> simp
    · split
      · have := cntL_len v m ks
        omega
      · simp
theorem cntL_len (v : ByteArray → Nat) (m : ByteArray → List Dat) : ∀ (l : List Dat), (cntL v m l).length ≤ sizeL l
  | [] => by rw [cntL]; simp
  | d :: r => by
    have h1 := cntD_len v m d
    have h2 := cntL_len v m r
    rw [cntL, sizeL, List.length_append]
    omega
end
def intsV (l : List Nat) : List Value := l.map fun (x : Nat) => Value.int .i64 (x : Int)

/-- What is promised of counts. -/
def ToldC (l : List Nat) (w : World) (e : Ending) (w' : World) : Prop := Below w.heap.size w w' ∧ ∃ v, e = .returned v ∧ w'.ownsRow w.heap.size 3 1 v l.length (intsV l)

set_option maxRecDepth 100000 in
set_option maxHeartbeats 3200000 in
theorem counts_many (gb vb mb nv L : Nat) (sp lbb : Int) (v : ByteArray → Nat) (m : ByteArray → List Dat) (d : Dat) (a : Option Addr) (cap : Nat) (w : World) (hC : Cnt gb vb mb nv L sp lbb v m w) (hs : d.name.size ≤ maxLen) (h2 : v (symS d.kind d.name) = 2) :
    Calls Tryz.prog 113 #[.pointer (some ⟨gb, 0, none⟩), dv d a cap] w (ToldC (cntD v m d) w) := by
  have e1 : cntD v m d = [(m d.name).length] := by
    obtain ⟨k, n, nm, st, lb, ks⟩ := d
    rw [cntD, if_pos h2]
  rw [e1]
  have S8 : Hid (∀ W, Calls Tryz.prog 88 #[dv d a cap] W fun e w' => e = .returned (.string (symS d.kind d.name)) ∧ Below W.heap.size W w') := fun W => symbol88_any d a cap W
  have hsy : (symS d.kind d.name).size ≤ maxLen := by
    unfold symS
    split
    · exact hs
    · exact Nat.zero_le _
  obtain ⟨k, n, nm, st, lb, ks⟩ := d
  simp only at hs h2 S8 hsy e1 ⊢
  generalize symS k nm = sy at S8 h2 hsy
  have l1 := hC.grw.lt
  have SK : Hid (∀ w3, Below ((w.alloc (.cells #[.int .i64 k, .int .i64 n, .string nm, .int .i64 st, .int .i64 lb, .slice a ks.length cap] 28)).drew).heap.size ((w.alloc (.cells #[.int .i64 k, .int .i64 n, .string nm, .int .i64 st, .int .i64 lb, .slice a ks.length cap] 28)).drew) w3 →
      Cnt gb vb mb nv L sp lbb v m w3 ∧ Below w.heap.size w w3 ∧ Nod w.heap.size ⟨k, n, nm, st, lb, ks⟩ (.slice a ks.length cap) w3) := fun w3 hb => by
    have hb1 : Below w.heap.size w (w.alloc (.cells #[.int .i64 k, .int .i64 n, .string nm, .int .i64 st, .int .i64 lb, .slice a ks.length cap] 28)).drew := Below.drew ((Below.refl _ _).alloc (Nat.le_refl _) _)
    have hb2 : Below w.heap.size w w3 := hb1.trans (hb.mono (by simp))
    refine ⟨hC.below hb2, hb2, ?_⟩
    have h1 := Nod.made w ⟨k, n, nm, st, lb, ks⟩ (.slice a ks.length cap)
    exact (h1.after (Below.drew (Below.refl _ _))).after hb
  have c1 := hC.grw.c1
  have HC := hidd hC
  unfold dv at S8 ⊢
  simp only at S8 ⊢
  clear hC e1
  go_enter Tryz.func113, Tryz.ntmps113
  go_wp2_with fail
  go_region_held3 (fun w' => w'.cell? ⟨gb, 1, none⟩ = some (.map (some vb)) ∧ w'.cell? ⟨w.heap.size, 0, none⟩ = some (.int .i64 k) ∧ w'.cell? ⟨w.heap.size, 1, none⟩ = some (.int .i64 n) ∧ w'.cell? ⟨w.heap.size, 2, none⟩ = some (.string nm) ∧ w'.cell? ⟨w.heap.size, 3, none⟩ = some (.int .i64 st) ∧ w'.cell? ⟨w.heap.size, 4, none⟩ = some (.int .i64 lb) ∧ w'.cell? ⟨w.heap.size, 5, none⟩ = some (.slice a ks.length cap))
    (first | exact hc3 | (refine ⟨?_, ?_, ?_, ?_, ?_, ?_, ?_⟩ <;> (first | go_simp | (go_simp; exact c1))))
    (first | (go_at_call 88; refine (S8.out _).mono ?_; rintro e w3 ⟨rfl, hb3⟩; have h3 := SK.out w3 hb3; have hc3 : w3.cell? ⟨gb, 1, none⟩ = some (.map (some vb)) ∧ w3.cell? ⟨w.heap.size, 0, none⟩ = some (.int .i64 k) ∧ w3.cell? ⟨w.heap.size, 1, none⟩ = some (.int .i64 n) ∧ w3.cell? ⟨w.heap.size, 2, none⟩ = some (.string nm) ∧ w3.cell? ⟨w.heap.size, 3, none⟩ = some (.int .i64 st) ∧ w3.cell? ⟨w.heap.size, 4, none⟩ = some (.int .i64 lb) ∧ w3.cell? ⟨w.heap.size, 5, none⟩ = some (.slice a ks.length cap) := ⟨h3.1.grw.c1, h3.2.2.q0, h3.2.2.q1, h3.2.2.q2, h3.2.2.q3, h3.2.2.q4, h3.2.2.q5⟩; have hr3 := h3.1.vars.run (t := 74) Tryz.underlying74 sy hsy; rw [h2] at hr3; have H3 := hidd h3; clear h3 hb3))
  all_goals
    obtain ⟨f, hf1, hf2⟩ := H3.out.1.met
    obtain ⟨fa, fc, hfn⟩ := hf2 nm
    have hr69 := hf1.run nm hs
    have hr69' := (hf1.kept (w' := w3.drew) rfl).run nm hs
    rw [hfn] at hr69 hr69'
    have d2 := H3.out.1.grw.c2
    have hln := H3.out.1.few nm
    have q2 := hc3.2.2.2.1
    have lb3 := H3.out.2.2.lt
    have lg3 := H3.out.1.grw.lt
    clear hf1 hf2 hfn hc3
    go_wp2_with fail
    go_region_held3 (fun w' => w'.cell? ⟨gb, 2, none⟩ = some (.map (some mb)) ∧ w'.cell? ⟨w.heap.size, 2, none⟩ = some (.string nm)) (first | exact ⟨d2, q2⟩ | (refine ⟨?_, ?_⟩ <;> go_simp)) (fail)
    all_goals (go_wp2_with fail)
    all_goals go_ret
    all_goals exact ⟨Below.drew (H3.out.2.1.alloc H3.out.2.1.size _), _, rfl, World.ownsRow.drew (World.ownsRow_lit w3 #[.int .i64 ((m nm).length : Int)] 1 H3.out.2.1.size (by decide) rfl)⟩

set_option maxRecDepth 100000 in
set_option maxHeartbeats 3200000 in
theorem counts_else (gb vb mb nv L : Nat) (sp lbb : Int) (v : ByteArray → Nat) (m : ByteArray → List Dat) (d : Dat) (a : Option Addr) (cap : Nat) (w : World) (hC : Cnt gb vb mb nv L sp lbb v m w) (hs : d.name.size ≤ maxLen) (h2 : v (symS d.kind d.name) ≠ 2) (h4 : d.kind ≠ 4) :
    Calls Tryz.prog 113 #[.pointer (some ⟨gb, 0, none⟩), dv d a cap] w (ToldC (cntD v m d) w) := by
  have e1 : cntD v m d = [] := by
    obtain ⟨k, n, nm, st, lb, ks⟩ := d
    rw [cntD, if_neg h2, if_neg h4]
  rw [e1]
  have S8 : Hid (∀ W, Calls Tryz.prog 88 #[dv d a cap] W fun e w' => e = .returned (.string (symS d.kind d.name)) ∧ Below W.heap.size W w') := fun W => symbol88_any d a cap W
  have hsy : (symS d.kind d.name).size ≤ maxLen := by
    unfold symS
    split
    · exact hs
    · exact Nat.zero_le _
  obtain ⟨k, n, nm, st, lb, ks⟩ := d
  simp only at hs h2 S8 hsy e1 h4 ⊢
  generalize symS k nm = sy at S8 h2 hsy
  have l1 := hC.grw.lt
  have SK : Hid (∀ w3, Below ((w.alloc (.cells #[.int .i64 k, .int .i64 n, .string nm, .int .i64 st, .int .i64 lb, .slice a ks.length cap] 28)).drew).heap.size ((w.alloc (.cells #[.int .i64 k, .int .i64 n, .string nm, .int .i64 st, .int .i64 lb, .slice a ks.length cap] 28)).drew) w3 →
      Cnt gb vb mb nv L sp lbb v m w3 ∧ Below w.heap.size w w3 ∧ Nod w.heap.size ⟨k, n, nm, st, lb, ks⟩ (.slice a ks.length cap) w3) := fun w3 hb => by
    have hb1 : Below w.heap.size w (w.alloc (.cells #[.int .i64 k, .int .i64 n, .string nm, .int .i64 st, .int .i64 lb, .slice a ks.length cap] 28)).drew := Below.drew ((Below.refl _ _).alloc (Nat.le_refl _) _)
    have hb2 : Below w.heap.size w w3 := hb1.trans (hb.mono (by simp))
    refine ⟨hC.below hb2, hb2, ?_⟩
    have h1 := Nod.made w ⟨k, n, nm, st, lb, ks⟩ (.slice a ks.length cap)
    exact (h1.after (Below.drew (Below.refl _ _))).after hb
  obtain ⟨c, hcv⟩ : ∃ c, v sy = c := ⟨_, rfl⟩
  rw [hcv] at h2
  have HCV := hidd hcv
  clear hcv
  have c1 := hC.grw.c1
  have HC := hidd hC
  unfold dv at S8 ⊢
  simp only at S8 ⊢
  clear hC e1
  go_enter Tryz.func113, Tryz.ntmps113
  go_wp2_with fail
  go_region_held3 (fun w' => w'.cell? ⟨gb, 1, none⟩ = some (.map (some vb)) ∧ w'.cell? ⟨w.heap.size, 0, none⟩ = some (.int .i64 k) ∧ w'.cell? ⟨w.heap.size, 1, none⟩ = some (.int .i64 n) ∧ w'.cell? ⟨w.heap.size, 2, none⟩ = some (.string nm) ∧ w'.cell? ⟨w.heap.size, 3, none⟩ = some (.int .i64 st) ∧ w'.cell? ⟨w.heap.size, 4, none⟩ = some (.int .i64 lb) ∧ w'.cell? ⟨w.heap.size, 5, none⟩ = some (.slice a ks.length cap))
    (first | exact hc3 | (refine ⟨?_, ?_, ?_, ?_, ?_, ?_, ?_⟩ <;> (first | go_simp | (go_simp; exact c1))))
    (first | (go_at_call 88; refine (S8.out _).mono ?_; rintro e w3 ⟨rfl, hb3⟩; have h3 := SK.out w3 hb3; have hc3 : w3.cell? ⟨gb, 1, none⟩ = some (.map (some vb)) ∧ w3.cell? ⟨w.heap.size, 0, none⟩ = some (.int .i64 k) ∧ w3.cell? ⟨w.heap.size, 1, none⟩ = some (.int .i64 n) ∧ w3.cell? ⟨w.heap.size, 2, none⟩ = some (.string nm) ∧ w3.cell? ⟨w.heap.size, 3, none⟩ = some (.int .i64 st) ∧ w3.cell? ⟨w.heap.size, 4, none⟩ = some (.int .i64 lb) ∧ w3.cell? ⟨w.heap.size, 5, none⟩ = some (.slice a ks.length cap) := ⟨h3.1.grw.c1, h3.2.2.q0, h3.2.2.q1, h3.2.2.q2, h3.2.2.q3, h3.2.2.q4, h3.2.2.q5⟩; have hr3 := h3.1.vars.run (t := 74) Tryz.underlying74 sy hsy; rw [HCV.out] at hr3; have H3 := hidd h3; clear h3 hb3))
  all_goals
    have q0 := hc3.2.1
    have hk4 : (k != 4) = true := by simpa using h4
    have hc2 : ((c : Int) == 2) = false := by simp; omega
    clear hc3
    go_wp2_with fail
    go_ret
    exact ⟨H3.out.2.1, _, rfl, World.ownsRow_nil _ _ _ _⟩
end Go.Proofs.YtceapbliljiplaeGreatDoor
