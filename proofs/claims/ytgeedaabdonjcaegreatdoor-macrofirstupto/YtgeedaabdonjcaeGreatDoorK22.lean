/- Package rule set: for how many the variables stand. Package rule set: for how many the variables of a list stand. Package rule set: do all variables ahead of dots stand for like many? Package rule set: does a template fit? -/
import Derived.Laws.OwnMore
import Derived.Test.YtgeedaabdonjcaeGreatDoorK20
import Derived.Test.YtgeedaabdonjcaeGreatDoorK21
namespace Go.Proofs.YtgeedaabdonjcaeGreatDoor
section
set_option linter.unusedVariables false
set_option linter.unusedSimpArgs false
open Go.RowKit Go.Maps Go.WideMaps

/-- append(x, y...), both rows of the call's own. -/
theorem wpList_append_rows {P : Program} {w : World} {ops : Array Oper} {rest : List Oper} {o : Oper} {a : Act} {Q : Exit → Act → World → Prop} (hgd : o.guard = none) (s x : Operand) (t : TypeId)
    (ho : o.op = .call { callee := .builtin .append, args := #[s, x], argTypes := #[t, t] })
    (base : Nat) (e : TypeId) (i : TypeInfo) (z : Value) (size bytes : Nat) (ht : P.underlying t = some (.slice e)) (hi : P.info? e = some i) (hz : i.zero = some z)
    (hsize : i.size = size) (hby : i.bytes = bytes) (hzs : z.cells.size = size) (hsz : 0 < size)
    (v : Value) (n : Nat) (xs : List Value) (hs : a.eval s = v) (hown : w.ownsRow base e size v n xs)
    (base2 : Nat) (u : Value) (m : Nat) (news : List Value) (hx : a.eval x = u) (hsrc : w.ownsRow base2 e size u m news) (h1 : ∀ u ∈ news, u.oneCell' = true)
    (h63 : n + m ≤ maxLen) (hbytes : (n + m) * bytes ≤ 140737488355328) (hbase : base ≤ w.heap.size)
    (h : ∀ v' w', w'.ownsRow base e size v' (n + m) (xs ++ news) → w.grownBy w' v.ownBlock → wpList P ops Q rest (a.put o.dst v') w') : wpList P ops Q (o :: rest) a w := by
  refine wpList_plain hgd fun _ hK => ?_
  have key : ∃ v' w', (Builtin.append_ #[t, t] o.type #[v, u]).run P w = .ok v' w' ∧ w'.ownsRow base e size v' (n + m) (xs ++ news) ∧ w.grownBy w' v.ownBlock := by
    rcases hsrc.2 with ⟨rfl, rfl⟩ | ⟨g2, cap2, cur2, rfl, _⟩
    · have hn : news = [] := by
        have := hsrc.1
        rw [Nat.zero_mul] at this
        exact List.length_eq_zero_iff.1 this
      subst hn
      rw [run_append_owned_none (P := P) (w := w) base t o.type e i size ht hi v n xs hown]
      exact ⟨v, w, rfl, by simpa using hown, ⟨rfl, rfl, rfl, Nat.le_refl _, fun _ _ _ => rfl⟩⟩
    · have hcells := hsrc.cells (g := g2) rfl
      obtain ⟨v', w', hr, h2, h3, _⟩ := run_append_own (P := P) w base t o.type e i z size bytes ht hi hz hsize hby hzs hsz v n xs hown ⟨g2, 0, none⟩ m cap2 news hsrc.1 hcells h1 h63 hbytes hbase
      exact ⟨v', w', hr, h2, h3⟩
  obtain ⟨v', w', hr, h2, h3⟩ := key
  unfold Oper.wp execOp
  simp only [ho, resolve, invoke, builtin, Sem.run_bind, Sem.run_pure, Result.andThen_ok, List.map_toArray, List.map_cons, List.map_nil, hs, hx, hr]
  exact hK _ _ (h v' w' h2 h3)

/-- What a growth speaks of: its variables, what they met, stamp and lib. -/
structure Grw (gb vb mb : Nat) (sp lbb : Int) (w : World) : Prop where
  lt : gb < w.heap.size
  c1 : w.cell? ⟨gb, 1, none⟩ = some (.map (some vb))
  c2 : w.cell? ⟨gb, 2, none⟩ = some (.map (some mb))
  c3 : w.cell? ⟨gb, 3, none⟩ = some (.int .i64 sp)
  c4 : w.cell? ⟨gb, 4, none⟩ = some (.int .i64 lbb)
theorem Grw.of_block {gb vb mb : Nat} {sp lbb : Int} {w w' : World} (h : Grw gb vb mb sp lbb w) (hb : w'.heap[gb]? = w.heap[gb]?) (hs : gb < w'.heap.size) : Grw gb vb mb sp lbb w' := by
  have e : ∀ q, w'.cell? ⟨gb, q, none⟩ = w.cell? ⟨gb, q, none⟩ := fun q => World.cell?_of_block hb
  exact ⟨hs, (e _).trans h.c1, (e _).trans h.c2, (e _).trans h.c3, (e _).trans h.c4⟩
theorem Grw.below {gb vb mb : Nat} {sp lbb : Int} {w w' : World} (h : Grw gb vb mb sp lbb w) (hb : Below w.heap.size w w') : Grw gb vb mb sp lbb w' := h.of_block (hb.block gb h.lt) (Nat.lt_of_lt_of_le h.lt hb.size)

/-- What counting asks: the variables v, what they met m. -/
structure Cnt (gb vb mb nv L : Nat) (sp lbb : Int) (v : ByteArray → Nat) (m : ByteArray → List Dat) (w : World) : Prop where
  grw : Grw gb vb mb sp lbb w
  vars : MapN vb nv v w
  met : ∃ f, MapV mb L f w ∧ ∀ s, ∃ a c, f s = .slice a (m s).length c
  few : ∀ s, (m s).length ≤ 2000
theorem Cnt.below {gb vb mb nv L : Nat} {sp lbb : Int} {v : ByteArray → Nat} {m : ByteArray → List Dat} {w w' : World} (h : Cnt gb vb mb nv L sp lbb v m w) (hb : Below w.heap.size w w') : Cnt gb vb mb nv L sp lbb v m w' := by
  obtain ⟨h1, h2, ⟨f, h3, h4⟩, h5⟩ := h
  exact ⟨h1.below hb, h2.below hb, ⟨f, h3.kept (hb.block _ h3.lt), h4⟩, h5⟩

mutual
theorem cntD_len (v : ByteArray → Nat) (m : ByteArray → List Dat) : ∀ (d : Dat), (cntD v m d).length ≤ sizeD d
  | ⟨k, n, nm, st, lb, ks⟩ => by
    rw [cntD, sizeD]
    split
    · split <;> simp
    · split
      · have := cntL_len v m ks
        omega
      · simp
theorem cntL_len (v : ByteArray → Nat) (m : ByteArray → List Dat) : ∀ (l : List Dat), (cntL v m l).length ≤ sizeL l
  | [] => by rw [cntL]; simp
  | d :: r => by
    have h1 := cntD_len v m d
    have h2 := cntL_len v m r
    rw [cntL, sizeL, List.length_append]
    omega
end
def intsV (l : List Nat) : List Value := l.map fun (x : Nat) => Value.int .i64 (x : Int)

/-- What is promised of counts. -/
def ToldC (l : List Nat) (w : World) (e : Ending) (w' : World) : Prop := Below w.heap.size w w' ∧ ∃ v, e = .returned v ∧ w'.ownsRow w.heap.size 3 1 v l.length (intsV l)

set_option maxRecDepth 100000 in
set_option maxHeartbeats 3200000 in
theorem counts_many (gb vb mb nv L : Nat) (sp lbb : Int) (v : ByteArray → Nat) (m : ByteArray → List Dat) (d : Dat) (a : Option Addr) (cap : Nat) (w : World) (hC : Cnt gb vb mb nv L sp lbb v m w) (hs : d.name.size ≤ maxLen) (h2 : v (symS d.kind d.name) = 2) :
    Calls Tryz.prog 113 #[.pointer (some ⟨gb, 0, none⟩), dv d a cap] w (ToldC (cntD v m d) w) := by
  have e1 : cntD v m d = [(m d.name).length] := by
    obtain ⟨k, n, nm, st, lb, ks⟩ := d
    rw [cntD, if_pos h2]
  rw [e1]
  have S8 : Hid (∀ W, Calls Tryz.prog 88 #[dv d a cap] W fun e w' => e = .returned (.string (symS d.kind d.name)) ∧ Below W.heap.size W w') := fun W => symbol88_any d a cap W
  have hsy : (symS d.kind d.name).size ≤ maxLen := by
    unfold symS
    split
    · exact hs
    · exact Nat.zero_le _
  obtain ⟨k, n, nm, st, lb, ks⟩ := d
  simp only at hs h2 S8 hsy e1 ⊢
  generalize symS k nm = sy at S8 h2 hsy
  have l1 := hC.grw.lt
  have SK : Hid (∀ w3, Below ((w.alloc (.cells #[.int .i64 k, .int .i64 n, .string nm, .int .i64 st, .int .i64 lb, .slice a ks.length cap] 28)).drew).heap.size ((w.alloc (.cells #[.int .i64 k, .int .i64 n, .string nm, .int .i64 st, .int .i64 lb, .slice a ks.length cap] 28)).drew) w3 →
      Cnt gb vb mb nv L sp lbb v m w3 ∧ Below w.heap.size w w3 ∧ Nod w.heap.size ⟨k, n, nm, st, lb, ks⟩ (.slice a ks.length cap) w3) := fun w3 hb => by
    have hb1 : Below w.heap.size w (w.alloc (.cells #[.int .i64 k, .int .i64 n, .string nm, .int .i64 st, .int .i64 lb, .slice a ks.length cap] 28)).drew := Below.drew ((Below.refl _ _).alloc (Nat.le_refl _) _)
    have hb2 : Below w.heap.size w w3 := hb1.trans (hb.mono (by simp))
    refine ⟨hC.below hb2, hb2, ?_⟩
    have h1 := Nod.made w ⟨k, n, nm, st, lb, ks⟩ (.slice a ks.length cap)
    exact (h1.after (Below.drew (Below.refl _ _))).after hb
  have c1 := hC.grw.c1
  have HC := hidd hC
  unfold dv at S8 ⊢
  simp only at S8 ⊢
  clear hC e1
  go_enter Tryz.func113, Tryz.ntmps113
  go_wp2_with fail
  go_region_held3 (fun w' => w'.cell? ⟨gb, 1, none⟩ = some (.map (some vb)) ∧ w'.cell? ⟨w.heap.size, 0, none⟩ = some (.int .i64 k) ∧ w'.cell? ⟨w.heap.size, 1, none⟩ = some (.int .i64 n) ∧ w'.cell? ⟨w.heap.size, 2, none⟩ = some (.string nm) ∧ w'.cell? ⟨w.heap.size, 3, none⟩ = some (.int .i64 st) ∧ w'.cell? ⟨w.heap.size, 4, none⟩ = some (.int .i64 lb) ∧ w'.cell? ⟨w.heap.size, 5, none⟩ = some (.slice a ks.length cap))
    (first | exact hc3 | (refine ⟨?_, ?_, ?_, ?_, ?_, ?_, ?_⟩ <;> (first | go_simp | (go_simp; exact c1))))
    (first | (go_at_call 88; refine (S8.out _).mono ?_; rintro e w3 ⟨rfl, hb3⟩; have h3 := SK.out w3 hb3; have hc3 : w3.cell? ⟨gb, 1, none⟩ = some (.map (some vb)) ∧ w3.cell? ⟨w.heap.size, 0, none⟩ = some (.int .i64 k) ∧ w3.cell? ⟨w.heap.size, 1, none⟩ = some (.int .i64 n) ∧ w3.cell? ⟨w.heap.size, 2, none⟩ = some (.string nm) ∧ w3.cell? ⟨w.heap.size, 3, none⟩ = some (.int .i64 st) ∧ w3.cell? ⟨w.heap.size, 4, none⟩ = some (.int .i64 lb) ∧ w3.cell? ⟨w.heap.size, 5, none⟩ = some (.slice a ks.length cap) := ⟨h3.1.grw.c1, h3.2.2.q0, h3.2.2.q1, h3.2.2.q2, h3.2.2.q3, h3.2.2.q4, h3.2.2.q5⟩; have hr3 := h3.1.vars.run (t := 74) Tryz.underlying74 sy hsy; rw [h2] at hr3; have H3 := hidd h3; clear h3 hb3))
  all_goals
    obtain ⟨f, hf1, hf2⟩ := H3.out.1.met
    obtain ⟨fa, fc, hfn⟩ := hf2 nm
    have hr69 := hf1.run nm hs
    have hr69' := (hf1.kept (w' := w3.drew) rfl).run nm hs
    rw [hfn] at hr69 hr69'
    have d2 := H3.out.1.grw.c2
    have hln := H3.out.1.few nm
    have q2 := hc3.2.2.2.1
    have lb3 := H3.out.2.2.lt
    have lg3 := H3.out.1.grw.lt
    clear hf1 hf2 hfn hc3
    go_wp2_with fail
    go_region_held3 (fun w' => w'.cell? ⟨gb, 2, none⟩ = some (.map (some mb)) ∧ w'.cell? ⟨w.heap.size, 2, none⟩ = some (.string nm)) (first | exact ⟨d2, q2⟩ | (refine ⟨?_, ?_⟩ <;> go_simp)) (fail)
    all_goals (go_wp2_with fail)
    all_goals go_ret
    all_goals exact ⟨Below.drew (H3.out.2.1.alloc H3.out.2.1.size _), _, rfl, World.ownsRow.drew (World.ownsRow_lit w3 #[.int .i64 ((m nm).length : Int)] 1 H3.out.2.1.size (by decide) rfl)⟩

set_option maxRecDepth 100000 in
set_option maxHeartbeats 3200000 in
theorem counts_else (gb vb mb nv L : Nat) (sp lbb : Int) (v : ByteArray → Nat) (m : ByteArray → List Dat) (d : Dat) (a : Option Addr) (cap : Nat) (w : World) (hC : Cnt gb vb mb nv L sp lbb v m w) (hs : d.name.size ≤ maxLen) (h2 : v (symS d.kind d.name) ≠ 2) (h4 : d.kind ≠ 4) :
    Calls Tryz.prog 113 #[.pointer (some ⟨gb, 0, none⟩), dv d a cap] w (ToldC (cntD v m d) w) := by
  have e1 : cntD v m d = [] := by
    obtain ⟨k, n, nm, st, lb, ks⟩ := d
    rw [cntD, if_neg h2, if_neg h4]
  rw [e1]
  have S8 : Hid (∀ W, Calls Tryz.prog 88 #[dv d a cap] W fun e w' => e = .returned (.string (symS d.kind d.name)) ∧ Below W.heap.size W w') := fun W => symbol88_any d a cap W
  have hsy : (symS d.kind d.name).size ≤ maxLen := by
    unfold symS
    split
    · exact hs
    · exact Nat.zero_le _
  obtain ⟨k, n, nm, st, lb, ks⟩ := d
  simp only at hs h2 S8 hsy e1 h4 ⊢
  generalize symS k nm = sy at S8 h2 hsy
  have l1 := hC.grw.lt
  have SK : Hid (∀ w3, Below ((w.alloc (.cells #[.int .i64 k, .int .i64 n, .string nm, .int .i64 st, .int .i64 lb, .slice a ks.length cap] 28)).drew).heap.size ((w.alloc (.cells #[.int .i64 k, .int .i64 n, .string nm, .int .i64 st, .int .i64 lb, .slice a ks.length cap] 28)).drew) w3 →
      Cnt gb vb mb nv L sp lbb v m w3 ∧ Below w.heap.size w w3 ∧ Nod w.heap.size ⟨k, n, nm, st, lb, ks⟩ (.slice a ks.length cap) w3) := fun w3 hb => by
    have hb1 : Below w.heap.size w (w.alloc (.cells #[.int .i64 k, .int .i64 n, .string nm, .int .i64 st, .int .i64 lb, .slice a ks.length cap] 28)).drew := Below.drew ((Below.refl _ _).alloc (Nat.le_refl _) _)
    have hb2 : Below w.heap.size w w3 := hb1.trans (hb.mono (by simp))
    refine ⟨hC.below hb2, hb2, ?_⟩
    have h1 := Nod.made w ⟨k, n, nm, st, lb, ks⟩ (.slice a ks.length cap)
    exact (h1.after (Below.drew (Below.refl _ _))).after hb
  obtain ⟨c, hcv⟩ : ∃ c, v sy = c := ⟨_, rfl⟩
  rw [hcv] at h2
  have HCV := hidd hcv
  clear hcv
  have c1 := hC.grw.c1
  have HC := hidd hC
  unfold dv at S8 ⊢
  simp only at S8 ⊢
  clear hC e1
  go_enter Tryz.func113, Tryz.ntmps113
  go_wp2_with fail
  go_region_held3 (fun w' => w'.cell? ⟨gb, 1, none⟩ = some (.map (some vb)) ∧ w'.cell? ⟨w.heap.size, 0, none⟩ = some (.int .i64 k) ∧ w'.cell? ⟨w.heap.size, 1, none⟩ = some (.int .i64 n) ∧ w'.cell? ⟨w.heap.size, 2, none⟩ = some (.string nm) ∧ w'.cell? ⟨w.heap.size, 3, none⟩ = some (.int .i64 st) ∧ w'.cell? ⟨w.heap.size, 4, none⟩ = some (.int .i64 lb) ∧ w'.cell? ⟨w.heap.size, 5, none⟩ = some (.slice a ks.length cap))
    (first | exact hc3 | (refine ⟨?_, ?_, ?_, ?_, ?_, ?_, ?_⟩ <;> (first | go_simp | (go_simp; exact c1))))
    (first | (go_at_call 88; refine (S8.out _).mono ?_; rintro e w3 ⟨rfl, hb3⟩; have h3 := SK.out w3 hb3; have hc3 : w3.cell? ⟨gb, 1, none⟩ = some (.map (some vb)) ∧ w3.cell? ⟨w.heap.size, 0, none⟩ = some (.int .i64 k) ∧ w3.cell? ⟨w.heap.size, 1, none⟩ = some (.int .i64 n) ∧ w3.cell? ⟨w.heap.size, 2, none⟩ = some (.string nm) ∧ w3.cell? ⟨w.heap.size, 3, none⟩ = some (.int .i64 st) ∧ w3.cell? ⟨w.heap.size, 4, none⟩ = some (.int .i64 lb) ∧ w3.cell? ⟨w.heap.size, 5, none⟩ = some (.slice a ks.length cap) := ⟨h3.1.grw.c1, h3.2.2.q0, h3.2.2.q1, h3.2.2.q2, h3.2.2.q3, h3.2.2.q4, h3.2.2.q5⟩; have hr3 := h3.1.vars.run (t := 74) Tryz.underlying74 sy hsy; rw [HCV.out] at hr3; have H3 := hidd h3; clear h3 hb3))
  all_goals
    have q0 := hc3.2.1
    have hk4 : (k != 4) = true := by simpa using h4
    have hc2 : ((c : Int) == 2) = false := by simp; omega
    clear hc3
    go_wp2_with fail
    go_ret
    exact ⟨H3.out.2.1, _, rfl, World.ownsRow_nil _ _ _ _⟩
end
section
set_option linter.unusedVariables false
set_option linter.unusedSimpArgs false
open Go.RowKit Go.Maps Go.WideMaps

theorem cntL_append (v : ByteArray → Nat) (m : ByteArray → List Dat) : ∀ (a b : List Dat), cntL v m (a ++ b) = cntL v m a ++ cntL v m b
  | [], b => by rw [List.nil_append, cntL, List.nil_append]
  | d :: r, b => by rw [List.cons_append, cntL, cntL, cntL_append v m r b, List.append_assoc]
theorem cntL_take {v : ByteArray → Nat} {m : ByteArray → List Dat} {ks : List Dat} {j : Nat} {kid : Dat} (h : ks[j]? = some kid) : cntL v m (ks.take (j + 1)) = cntL v m (ks.take j) ++ cntD v m kid := by
  rw [take_at h, cntL_append, cntL, cntL, List.append_nil]
theorem infoInt : (Tryz.prog.info? 3).map (fun i => (i.zero, i.size, i.bytes)) = some (some (.int .i64 0), 1, 8) := by kernel_rfl

set_option maxRecDepth 100000 in
set_option maxHeartbeats 3200000 in
theorem counts_list (B g gb vb mb nv L : Nat) (sp lbb : Int) (v : ByteArray → Nat) (m : ByteArray → List Dat) (d : Dat) (a : Option Addr) (cap : Nat) (w : World) (hC : Cnt gb vb mb nv L sp lbb v m w) (hs : d.name.size ≤ maxLen) (h2 : v (symS d.kind d.name) ≠ 2) (h4 : d.kind = 4)
    (hl : Lies B w (g + 1) a d.kids) (hB : B ≤ w.heap.size) (hsz : sizeD d ≤ 2000)
    (ih : ∀ (d' : Dat), d' ∈ d.kids → ∀ (a : Option Addr) (cap : Nat) (w : World), B ≤ w.heap.size → Lies B w g a d'.kids → d'.name.size ≤ maxLen → sizeD d' ≤ 2000 → Cnt gb vb mb nv L sp lbb v m w → Calls Tryz.prog 113 #[.pointer (some ⟨gb, 0, none⟩), dv d' a cap] w (ToldC (cntD v m d') w)) :
    Calls Tryz.prog 113 #[.pointer (some ⟨gb, 0, none⟩), dv d a cap] w (ToldC (cntD v m d) w) := by
  have e1 : cntD v m d = cntL v m d.kids := by
    obtain ⟨k, n, nm, st, lb, ks⟩ := d
    rw [cntD, if_neg h2, if_pos h4]
  have e2 : sizeL d.kids ≤ 2000 := by
    obtain ⟨k, n, nm, st, lb, ks⟩ := d
    rw [sizeD, if_pos h4] at hsz
    show sizeL ks ≤ 2000
    omega
  rw [e1]
  have IH := hidd ih
  have HL : Hid (Lies B w (g + 1) a d.kids) := hl
  have hlen := hl.len
  have E2 := hidd e2
  clear ih hl hsz e2
  have S8 : Hid (∀ W, Calls Tryz.prog 88 #[dv d a cap] W fun e w' => e = .returned (.string (symS d.kind d.name)) ∧ Below W.heap.size W w') := fun W => symbol88_any d a cap W
  have hsy : (symS d.kind d.name).size ≤ maxLen := by
    unfold symS
    split
    · exact hs
    · exact Nat.zero_le _
  obtain ⟨k, n, nm, st, lb, ks⟩ := d
  simp only at hs h2 S8 hsy e1 h4 IH HL hlen E2 ⊢
  subst h4
  generalize symS 4 nm = sy at S8 h2 hsy
  have l1 := hC.grw.lt
  have SK : Hid (∀ w3, Below ((w.alloc (.cells #[.int .i64 4, .int .i64 n, .string nm, .int .i64 st, .int .i64 lb, .slice a ks.length cap] 28)).drew).heap.size ((w.alloc (.cells #[.int .i64 4, .int .i64 n, .string nm, .int .i64 st, .int .i64 lb, .slice a ks.length cap] 28)).drew) w3 →
      Cnt gb vb mb nv L sp lbb v m w3 ∧ Below w.heap.size w w3 ∧ Nod w.heap.size ⟨4, n, nm, st, lb, ks⟩ (.slice a ks.length cap) w3) := fun w3 hb => by
    have hb1 : Below w.heap.size w (w.alloc (.cells #[.int .i64 4, .int .i64 n, .string nm, .int .i64 st, .int .i64 lb, .slice a ks.length cap] 28)).drew := Below.drew ((Below.refl _ _).alloc (Nat.le_refl _) _)
    have hb2 : Below w.heap.size w w3 := hb1.trans (hb.mono (by simp))
    refine ⟨hC.below hb2, hb2, ?_⟩
    have h1 := Nod.made w ⟨4, n, nm, st, lb, ks⟩ (.slice a ks.length cap)
    exact (h1.after (Below.drew (Below.refl _ _))).after hb
  obtain ⟨c, hcv⟩ : ∃ c, v sy = c := ⟨_, rfl⟩
  rw [hcv] at h2
  have HCV := hidd hcv
  clear hcv
  have c1 := hC.grw.c1
  have HC := hidd hC
  unfold dv at S8 ⊢
  simp only at S8 ⊢
  clear hC e1
  have hc2 : ((c : Int) == 2) = false := by simp; omega
  go_enter Tryz.func113, Tryz.ntmps113
  go_wp2_with fail
  go_region_held3 (fun w' => w'.cell? ⟨gb, 1, none⟩ = some (.map (some vb)) ∧ w'.cell? ⟨w.heap.size, 0, none⟩ = some (.int .i64 4) ∧ w'.cell? ⟨w.heap.size, 1, none⟩ = some (.int .i64 n) ∧ w'.cell? ⟨w.heap.size, 2, none⟩ = some (.string nm) ∧ w'.cell? ⟨w.heap.size, 3, none⟩ = some (.int .i64 st) ∧ w'.cell? ⟨w.heap.size, 4, none⟩ = some (.int .i64 lb) ∧ w'.cell? ⟨w.heap.size, 5, none⟩ = some (.slice a ks.length cap))
    (first | exact hc3 | (refine ⟨?_, ?_, ?_, ?_, ?_, ?_, ?_⟩ <;> (first | go_simp | (go_simp; exact c1))))
    (first | (go_at_call 88; refine (S8.out _).mono ?_; rintro e w3 ⟨rfl, hb3⟩; have h3 := SK.out w3 hb3; have hc3 : w3.cell? ⟨gb, 1, none⟩ = some (.map (some vb)) ∧ w3.cell? ⟨w.heap.size, 0, none⟩ = some (.int .i64 4) ∧ w3.cell? ⟨w.heap.size, 1, none⟩ = some (.int .i64 n) ∧ w3.cell? ⟨w.heap.size, 2, none⟩ = some (.string nm) ∧ w3.cell? ⟨w.heap.size, 3, none⟩ = some (.int .i64 st) ∧ w3.cell? ⟨w.heap.size, 4, none⟩ = some (.int .i64 lb) ∧ w3.cell? ⟨w.heap.size, 5, none⟩ = some (.slice a ks.length cap) := ⟨h3.1.grw.c1, h3.2.2.q0, h3.2.2.q1, h3.2.2.q2, h3.2.2.q3, h3.2.2.q4, h3.2.2.q5⟩; have hr3 := h3.1.vars.run (t := 74) Tryz.underlying74 sy hsy; rw [HCV.out] at hr3; have H3 := hidd h3; clear h3 hb3))
  all_goals
    have q0 := hc3.2.1
    have q5 := hc3.2.2.2.2.2.2
    clear hc3
    go_wp2_with fail
    go_loopw [5, 31] (fun r i wr => ∃ j : Nat, j ≤ ks.length ∧ i = .int .i64 j ∧ Below w.heap.size w wr ∧ wr.ownsRow w.heap.size 3 1 r (cntL v m (ks.take j)).length (intsV (cntL v m (ks.take j)))) (fun _ i _ => ks.length - (intOf i).toNat)
    case atStart => exact ⟨0, Nat.zero_le _, rfl, H3.out.2.1, by simpa [cntL, intsV] using World.ownsRow_nil _ _ _ _⟩
    case round =>
      obtain ⟨j, hj, rfl, hbr, hown⟩ := hrel
      have HR : Hid (Below w.heap.size w wr ∧ wr.ownsRow w.heap.size 3 1 u5 (cntL v m (ks.take j)).length (intsV (cntL v m (ks.take j)))) := ⟨hbr, hown⟩
      have hsr := hbr.size
      clear hown H3 hr3 q0 q5
      by_cases hlt : j < ks.length
      · obtain ⟨kid, hkid⟩ : ∃ kid, ks[j]? = some kid := ⟨ks[j], List.getElem?_eq_getElem hlt⟩
        have hne : ks ≠ [] := by intro e; rw [e] at hlt; simp at hlt
        have hLr : Lies B wr (g + 1) a ks := HL.out.below (hbr.mono hB)
        obtain ⟨g', b, o, hg, ha, hbB, hall⟩ := hLr.at hne
        subst ha
        obtain ⟨a', cap', k0, k1, k2, k3, k4, k5, hkn, hkk⟩ := hall j kid hkid
        have hg' : g' = g := by omega
        subst hg'
        have HA : Hid (Lies B wr g' a' kid.kids ∧ kid ∈ ks ∧ kid.name.size ≤ maxLen) := ⟨hkk, List.mem_of_getElem? hkid, hkn⟩
        have ES := sizeL_take hkid
        have EP := sizeL_part ks (j + 1)
        have EB : Hid (sizeL (ks.take j) + sizeD kid ≤ 2000) := by have := E2.out; show sizeL (ks.take j) + sizeD kid ≤ 2000; omega
        have E3 : Hid (cntL v m (ks.take (j + 1)) = cntL v m (ks.take j) ++ cntD v m kid) := cntL_take hkid
        clear hkid hall hkk hLr hne hg hkn hbr ES EP
        obtain ⟨i0, hinf, hz0, hz1, hz2⟩ := info_parts infoInt
        go_wp2_with fail
        refine (IH.out kid HA.out.2.1 a' cap' _ (by simp; omega) (HA.out.1.below ((Below.refl _ _).alloc (by omega) _)) HA.out.2.2 (by have := EB.out; omega) ((HC.out.below HR.out.1).below ((Below.refl _ _).alloc (Nat.le_refl _) _))).mono ?_
        rintro e w2 ⟨hb2, v2, rfl, hown2⟩
        have hsz2 : wr.heap.size + 1 ≤ w2.heap.size := by have := hb2.size; simpa using this
        have H2 : Hid (Below w.heap.size w w2 ∧ w2.ownsRow w.heap.size 3 1 u5 (cntL v m (ks.take j)).length (intsV (cntL v m (ks.take j))) ∧ w2.ownsRow (wr.heap.size + 1) 3 1 v2 (cntD v m kid).length (intsV (cntD v m kid))) := by
          have hbb : Below wr.heap.size wr w2 := ((Below.refl _ _).alloc (Nat.le_refl _) _).trans (hb2.mono (by simp))
          refine ⟨HR.out.1.trans (hbb.mono hsr), HR.out.2.kept (row := none) ⟨hbb.os, hbb.tape, hbb.output, hbb.size, fun k hk _ => hbb.block k hk⟩ (by cases hv : u5.ownBlock <;> simp), ?_⟩
          simpa using hown2
        clear hb2 hown2
        have hlc1 := cntL_len v m (ks.take j)
        have hlc2 := cntD_len v m kid
        have HLC : Hid ((cntL v m (ks.take j)).length + (cntD v m kid).length ≤ 2000) := by have := EB.out; show (cntL v m (ks.take j)).length + (cntD v m kid).length ≤ 2000; omega
        clear hlc1 hlc2
        go_wp2_with (at_builtin; refine wpList_append_rows rfl _ _ 174 rfl w.heap.size 3 i0 _ 1 8 Tryz.underlying174 hinf hz0 hz1 hz2 rfl (by decide) u5 (cntL v m (ks.take j)).length (intsV (cntL v m (ks.take j))) rfl H2.out.2.1 (wr.heap.size + 1) v2 (cntD v m kid).length (intsV (cntD v m kid)) rfl H2.out.2.2 ?c1 ?c2 ?c3 ?c4 ?_)
        case c1 =>
          intro u hu
          obtain ⟨x, _, rfl⟩ := List.mem_map.1 hu
          rfl
        case c2 => have := HLC.out; unfold maxLen; omega
        case c3 => have := HLC.out; omega
        case c4 => omega
        intro v' w4 hown4 hg4
        have H4 : Hid (Below w.heap.size w w4 ∧ w4.ownsRow w.heap.size 3 1 v' (cntL v m (ks.take (j + 1))).length (intsV (cntL v m (ks.take (j + 1))))) := by
          refine ⟨Below.grown H2.out.1 hg4 (by omega) (fun k hk => (H2.out.2.1.lt k hk).1), ?_⟩
          rw [E3.out, List.length_append]
          have e : intsV (cntL v m (ks.take j) ++ cntD v m kid) = intsV (cntL v m (ks.take j)) ++ intsV (cntD v m kid) := by simp [intsV]
          rw [e]
          exact hown4
        clear hown4 hg4
        obtain ⟨ao, ln, cp, hv'⟩ : ∃ ao ln cp, v' = .slice ao ln cp := by
          rcases H4.out.2.2 with ⟨hv, _⟩ | ⟨gg, cap, cur, hv, _⟩
          · exact ⟨_, _, _, hv⟩
          · exact ⟨_, _, _, hv⟩
        subst hv'
        go_wp2_with fail
        go_roundw
        case rel => exact ⟨j + 1, by omega, by go_num, H4.out.1, H4.out.2⟩
        case measure => simp [intOf]; omega
      · obtain rfl : j = ks.length := by omega
        clear hbr
        go_wp2_with fail
        go_ret
        refine ⟨HR.out.1, u5, rfl, ?_⟩
        have := HR.out.2
        rw [List.take_length] at this
        exact this
end
section
set_option linter.unusedVariables false
set_option linter.unusedSimpArgs false
open Go.RowKit Go.Maps Go.WideMaps

theorem counts_any (B gb vb mb nv L : Nat) (sp lbb : Int) (v : ByteArray → Nat) (m : ByteArray → List Dat) : ∀ (g : Nat) (d : Dat) (a : Option Addr) (cap : Nat) (w : World), B ≤ w.heap.size → Lies B w g a d.kids → d.name.size ≤ maxLen → sizeD d ≤ 2000 → Cnt gb vb mb nv L sp lbb v m w →
    Calls Tryz.prog 113 #[.pointer (some ⟨gb, 0, none⟩), dv d a cap] w (ToldC (cntD v m d) w) := by
  intro g
  induction g with
  | zero =>
    intro d a cap w hB hl hs hz hC
    by_cases h2 : v (symS d.kind d.name) = 2
    · exact counts_many gb vb mb nv L sp lbb v m d a cap w hC hs h2
    · by_cases h4 : d.kind = 4
      · refine counts_list B 0 gb vb mb nv L sp lbb v m d a cap w hC hs h2 h4 (Lies.more 0 a _ hl) hB hz fun d' hd => ?_
        rw [show d.kids = [] from hl] at hd
        cases hd
      · exact counts_else gb vb mb nv L sp lbb v m d a cap w hC hs h2 h4
  | succ g ih =>
    intro d a cap w hB hl hs hz hC
    by_cases h2 : v (symS d.kind d.name) = 2
    · exact counts_many gb vb mb nv L sp lbb v m d a cap w hC hs h2
    · by_cases h4 : d.kind = 4
      · exact counts_list B g gb vb mb nv L sp lbb v m d a cap w hC hs h2 h4 hl hB hz fun d' _ a cap w hB hl hs hz hC => ih d' a cap w hB hl hs hz hC
      · exact counts_else gb vb mb nv L sp lbb v m d a cap w hC hs h2 h4

mutual
theorem cntD_few (v : ByteArray → Nat) (m : ByteArray → List Dat) (h : ∀ s, (m s).length ≤ 2000) : ∀ (d : Dat), ∀ c ∈ cntD v m d, c ≤ 2000
  | ⟨k, n, nm, st, lb, ks⟩, c, hc => by
    rw [cntD] at hc
    split at hc
    · simp at hc
      subst hc
      exact h nm
    · split at hc
      · exact cntL_few v m h ks c hc
      · cases hc
theorem cntL_few (v : ByteArray → Nat) (m : ByteArray → List Dat) (h : ∀ s, (m s).length ≤ 2000) : ∀ (l : List Dat), ∀ c ∈ cntL v m l, c ≤ 2000
  | [], c, hc => by rw [cntL] at hc; cases hc
  | d :: r, c, hc => by
    rw [cntL] at hc
    rcases List.mem_append.1 hc with hc | hc
    · exact cntD_few v m h d c hc
    · exact cntL_few v m h r c hc
end

/-- A row of numbers, read. -/
theorem NumsIn.of_row {w : World} {base gg cap : Nat} {l : List Nat} (h : w.ownsRow base 3 1 (.slice (some ⟨gg, 0, none⟩) l.length cap) l.length (intsV l)) (hl : l.length ≤ 2000) (hf : ∀ c ∈ l, c ≤ 2000) : NumsIn gg l w := by
  refine ⟨by omega, fun i x hx => ⟨by have := hf x (List.mem_of_getElem? hx); omega, ?_⟩⟩
  have := h.cells (g := gg) rfl i (.int .i64 (x : Int)) (by unfold intsV; rw [List.getElem?_map, hx]; rfl)
  rwa [addr_add] at this
theorem NumsIn.below {w w' : World} {b : Nat} {l : List Nat} (h : NumsIn b l w) (hb : b < w.heap.size) (hw : Below w.heap.size w w') : NumsIn b l w' :=
  ⟨h.1, fun i x hx => ⟨(h.2 i x hx).1, (hw.cell (p := ⟨b, i, none⟩) hb).trans (h.2 i x hx).2⟩⟩

set_option maxRecDepth 100000 in
set_option maxHeartbeats 1600000 in
theorem alike_any (B gb vb mb nv L : Nat) (sp lbb : Int) (v : ByteArray → Nat) (m : ByteArray → List Dat) (g : Nat) (d : Dat) (a : Option Addr) (cap : Nat) (w : World) (hB : B ≤ w.heap.size) (hl : Lies B w g a d.kids) (hs : d.name.size ≤ maxLen) (hz : sizeD d ≤ 2000) (hC : Cnt gb vb mb nv L sp lbb v m w) (hne : cntD v m d ≠ []) :
    Calls Tryz.prog 87 #[.pointer (some ⟨gb, 0, none⟩), dv d a cap] w fun e w' => e = .returned (.bool (alikeB (cntD v m d))) ∧ Below w.heap.size w w' := by
  have CA : Hid (∀ W, Below w.heap.size w W → Calls Tryz.prog 113 #[.pointer (some ⟨gb, 0, none⟩), dv d a cap] W (ToldC (cntD v m d) W)) := fun W hb => counts_any B gb vb mb nv L sp lbb v m g d a cap W (Nat.le_trans hB hb.size) (hl.below (hb.mono hB)) hs hz (hC.below hb)
  have HF : Hid ((cntD v m d).length ≤ 2000 ∧ ∀ c ∈ cntD v m d, c ≤ 2000) := ⟨Nat.le_trans (cntD_len v m d) hz, cntD_few v m hC.few d⟩
  have hne' : 0 < (cntD v m d).length := List.length_pos_iff.2 hne
  generalize cntD v m d = l at CA HF hne hne' ⊢
  rw [← minmax_alike]
  obtain ⟨k, n, nm, st, lb, ks⟩ := d
  unfold dv at CA ⊢
  simp only at CA ⊢
  have hgl := hC.grw.lt
  clear hC hl hs hz
  go_enter Tryz.func87, Tryz.ntmps87
  go_wp2_with fail
  refine (CA.out _ ((Below.refl _ _).alloc (Nat.le_refl _) _)).mono ?_
  rintro e w1 ⟨hb1, v1, rfl, hown1⟩
  obtain ⟨g1, c1, rfl, hg1, hg1'⟩ : ∃ g1 c1, v1 = .slice (some ⟨g1, 0, none⟩) l.length c1 ∧ True ∧ g1 < w1.heap.size := by
    rcases hown1.2 with ⟨_, h0⟩ | ⟨gg, cap, cur, hv, _, hcur, _⟩
    · omega
    · exact ⟨gg, cap, hv, trivial, (Array.getElem?_eq_some_iff.1 hcur).1⟩
  have N1 : Hid (NumsIn g1 l w1) := NumsIn.of_row hown1 HF.out.1 HF.out.2
  have HB1 : Hid (Below w.heap.size w w1) := ((Below.refl _ _).alloc (Nat.le_refl _) _).trans (hb1.mono (by simp))
  clear hb1 hown1 CA
  go_wp2_with fail
  refine (Min_any g1 c1 l w1 N1.out hne).mono ?_
  rintro e w2 ⟨rfl, hb2⟩
  have N2 : Hid (NumsIn g1 l w2) := N1.out.below hg1' hb2
  have HB2 : Hid (Below w.heap.size w w2) := HB1.out.trans (hb2.mono HB1.out.size)
  clear hb2
  go_wp2_with fail
  refine (Max_any g1 c1 l w2 N2.out hne).mono ?_
  rintro e w3 ⟨rfl, hb3⟩
  have HB3 : Hid (Below w.heap.size w w3) := HB2.out.trans (hb3.mono HB2.out.size)
  clear hb3
  go_wp2_with fail
  go_ret
  refine ⟨?_, HB3.out⟩
  show Ending.returned (.bool (((minL l : Nat) : Int) == ((maxL l : Nat) : Int))) = _
  congr 2
  rw [Bool.eq_iff_iff, beq_iff_eq, beq_iff_eq]
  omega
end
section
set_option linter.unusedVariables false
set_option linter.unusedSimpArgs false
open Go.RowKit Go.Shelf
attribute [local go_sem] Oper.semAt_some

/-- What fits keeps: the growth, the datum, and what it answers. -/
structure FW (w : World) (gb : Nat) (D : Array Value) (res : Bool) (W : World) : Prop where
  old : Below w.heap.size w W
  b0 : W.heap[w.heap.size]? = some (.cells #[.pointer (some ⟨gb, 0, none⟩)] 114 (0, 0))
  b1 : W.heap[w.heap.size + 1]? = some (.cells D 28 (0, 0))
  b2 : W.heap[w.heap.size + 1 + 1]? = some (.cells #[.bool res] 4 (0, 0))

section
variable {w W W' : World} {gb : Nat} {D : Array Value} {res : Bool}
theorem FW.size (h : FW w gb D res W) : w.heap.size + 1 + 1 < W.heap.size := (Array.getElem?_eq_some_iff.1 h.b2).1
theorem FW.start (w : World) (gb : Nat) (D : Array Value) (res : Bool) : FW w gb D res (((w.alloc (.cells #[.pointer (some ⟨gb, 0, none⟩)] 114)).alloc (.cells D 28)).alloc (.cells #[.bool res] 4)) := by
  have a0 := fun (u : World) (o : Obj) (k : Nat) (h : k < u.heap.size) => Below.heap_alloc u o k h
  have n0 := fun (u : World) (o : Obj) => World.alloc_heap_new u o
  refine ⟨(((Below.refl _ _).alloc (Nat.le_refl _) _).alloc (by simp only [World.size_alloc]; omega) _).alloc (by simp only [World.size_alloc]; omega) _, ?_, ?_, ?_⟩
  · rw [a0 _ _ _ (by simp only [World.size_alloc]; omega), a0 _ _ _ (by simp only [World.size_alloc]; omega)]
    exact n0 w _
  · rw [a0 _ _ _ (by simp only [World.size_alloc]; omega)]
    have := n0 (w.alloc (.cells #[.pointer (some ⟨gb, 0, none⟩)] 114)) (.cells D 28)
    rwa [World.size_alloc] at this
  · have := n0 ((w.alloc (.cells #[.pointer (some ⟨gb, 0, none⟩)] 114)).alloc (.cells D 28)) (.cells #[.bool res] 4)
    rwa [World.size_alloc, World.size_alloc] at this
theorem FW.kept (h : FW w gb D res W) (hb : Below (w.heap.size + 1 + 1 + 1) W W') : FW w gb D res W' :=
  ⟨h.old.trans (hb.mono (by omega)), (hb.block _ (by omega)).trans h.b0, (hb.block _ (by omega)).trans h.b1, (hb.block _ (by omega)).trans h.b2⟩
theorem FW.below (h : FW w gb D res W) (hb : Below W.heap.size W W') : FW w gb D res W' := h.kept (hb.mono h.size)
theorem FW.set (h : FW w gb D res W) (y : Bool) : FW w gb D y (W.setCell ⟨w.heap.size + 1 + 1, 0, none⟩ (.bool y)) := by
  have o : ∀ k, k ≠ w.heap.size + 1 + 1 → (W.setCell ⟨w.heap.size + 1 + 1, 0, none⟩ (.bool y)).heap[k]? = W.heap[k]? := fun k hk => Below.heap_setCell _ _ _ _ hk
  exact ⟨h.old.setCell (p := ⟨w.heap.size + 1 + 1, 0, none⟩) (by show _ ≤ w.heap.size + 1 + 1; omega) _, (o _ (by omega)).trans h.b0, (o _ (by omega)).trans h.b1, heap_setCell h.b2 (by simp) _⟩
theorem FW.own (h : FW w gb D res W) {row : Option Nat} (hg : W.grownBy W' row) (hr : ∀ r, row = some r → w.heap.size ≤ r ∧ ∃ o : Obj, W.heap[r]? = some o ∧ o.isCells = false) : FW w gb D res W' := by
  have hk : ∀ (k : Nat) (c : Array Value) (e : TypeId) (f : Nat × Nat), W.heap[k]? = some (.cells c e f) → W'.heap[k]? = W.heap[k]? := fun k c e f h => hg.block k (Array.getElem?_eq_some_iff.1 h).1 fun q => by
    obtain ⟨_, o, h1, h2⟩ := hr k q.symm
    rw [h] at h1
    cases h1
    cases h2
  exact ⟨Below.grown h.old hg h.old.size fun k hk => (hr k hk).1, (hk _ _ _ _ h.b0).trans h.b0, (hk _ _ _ _ h.b1).trans h.b1, (hk _ _ _ _ h.b2).trans h.b2⟩
theorem FW.cell0 (h : FW w gb D res W) : W.cell? ⟨w.heap.size, 0, none⟩ = some (.pointer (some ⟨gb, 0, none⟩)) := by simp [World.cell?, h.b0]
theorem FW.cell2 (h : FW w gb D res W) : W.cell? ⟨w.heap.size + 1 + 1, 0, none⟩ = some (.bool res) := by simp [World.cell?, h.b2]
theorem FW.thaw2 (h : FW w gb D res W) : W.frozen? ⟨w.heap.size + 1 + 1, 0, none⟩ = false := by simp [World.frozen?, h.b2]
theorem FW.put (h : FW w gb D res W) {Dd : Nat} (hd : w.heap.size + 1 + 1 + 1 ≤ Dd) (o : Obj) : FW w gb D res (W.putObj Dd o) := by
  have e : ∀ k, k < Dd → (W.putObj Dd o).heap[k]? = W.heap[k]? := fun k hk => World.putObj_heap_other (by omega)
  exact ⟨⟨h.old.os, h.old.tape, h.old.output, by simp [World.putObj]; exact h.old.size, fun k hk => (e k (by omega)).trans (h.old.block k hk)⟩, (e _ (by omega)).trans h.b0, (e _ (by omega)).trans h.b1, (e _ (by omega)).trans h.b2⟩
end

theorem ret58 (tmps : Array Value) (b : Nat) (x : Value) (w : World) (h6 : tmps.getD 4 undef = .pointer (some ⟨b, 0, none⟩)) (h : w.cell? ⟨b, 0, none⟩ = some x) :
    (results Tryz.f58 tmps).run Tryz.prog w = .ok x w := by
  rw [Array.getD_eq_getD_getElem?] at h6
  simp [results, Tryz.results58, h6, go_sem, h]

set_option maxRecDepth 100000 in
set_option maxHeartbeats 1600000 in
theorem fits_else (gb : Nat) (v : ByteArray → Nat) (m : ByteArray → List Dat) (d : Dat) (a : Option Addr) (cap : Nat) (w : World) (h4 : d.kind ≠ 4) :
    Calls Tryz.prog 58 #[.pointer (some ⟨gb, 0, none⟩), dv d a cap] w fun e w' => e = .returned (.bool (fitsD v m d)) ∧ Below w.heap.size w w' := by
  obtain ⟨k, n', nm, st, lbb, ks⟩ := d
  simp only at h4
  have e1 : fitsD v m ⟨k, n', nm, st, lbb, ks⟩ = true := by rw [fitsD, if_neg h4]
  rw [e1]
  have h4' : (k != 4) = true := by simpa using h4
  have HR : Hid (FW w gb #[.int .i64 k, .int .i64 n', .string nm, .int .i64 st, .int .i64 lbb, .slice a ks.length cap] true _) := FW.start w gb _ true
  clear e1 h4
  unfold dv
  simp only
  go_enter Tryz.func58, Tryz.ntmps58
  go_wp2_with fail
  exact bodyPost_ret (v := .bool true) (ret58 _ _ _ _ rfl HR.out.cell2) rfl ⟨rfl, HR.out.old⟩
end
end Go.Proofs.YtgeedaabdonjcaeGreatDoor
