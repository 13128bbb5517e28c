/- Chapter 11: values compared Chapter 11: primitives of one Chapter 11: primitives of two -/
import Derived.LaidEql
import Derived.MapKept
import Derived.Test.YthikdpclifeonaaGreatDoorK33
import Derived.Test.YthikdpclifeonaaGreatDoorK34
namespace Go.Proofs.YthikdpclifeonaaGreatDoor.V
section
set_option linter.unusedVariables false
set_option linter.unusedSimpArgs false
open Go.RowKit
open Go.Proofs.YthikdpclifeonaaGreatDoor

theorem eq_iface (d : Nat) (t : TypeId) (x y : Value) (w : World) (hc : (Tryz.prog.info? t).map (·.comparable) = some true) : (Op.equalIn (d + 1) 155 (.iface t x) (.iface t y)).run Tryz.prog w = (Op.equalIn d t x y).run Tryz.prog w := by
  obtain ⟨i, hi, hcc⟩ := Option.map_eq_some_iff.1 hc
  simp [Op.equalIn, run_underlying Tryz.underlying155, typeInfo, hi, hcc]
theorem eql_of {t u : TypeId} {x y : Value} {w : World} {q : Bool} (h : (Op.equalIn 10000 155 (.iface t x) (.iface u y)).run Tryz.prog w = .ok q w) : (binOp .eql 155 (.iface t x) (.iface u y)).run Tryz.prog w = .ok (.bool q) w := by
  have e : (Op.equal 155 (.iface t x) (.iface u y)).run Tryz.prog w = .ok q w := h
  simp [binOp, e]
theorem eql_other (t u : TypeId) (x y : Value) (h : t ≠ u) (w : World) : (binOp .eql 155 (.iface t x) (.iface u y)).run Tryz.prog w = .ok (.bool false) w := eql_of (equalIn_other 9999 t u x y h w)
theorem eqIn_num (d : Nat) (x y : Int) (w : World) : (Op.equalIn (d + 1) 162 (.int .i64 x) (.int .i64 y)).run Tryz.prog w = .ok (decide (x = y)) w := by
  simp [Op.equalIn, run_underlying Tryz.underlying162, beq_dec]
theorem eqIn_tru (d : Nat) (x y : Bool) (w : World) : (Op.equalIn (d + 1) 163 (.bool x) (.bool y)).run Tryz.prog w = .ok (decide (x = y)) w := by
  cases x <;> cases y <;> simp [Op.equalIn, run_underlying Tryz.underlying163]
theorem ba_dec (x y : ByteArray) : (x == y) = decide (x = y) := by
  by_cases h : x = y
  · subst h
    rw [decide_eq_true rfl]
    exact (MapKept.bytes_beq x x).2 rfl
  · rw [decide_eq_false h]
    cases e : (x == y) with
    | false => rfl
    | true => exact absurd ((MapKept.bytes_beq x y).1 e) h
theorem eqIn_sym (d : Nat) (x y : ByteArray) (w : World) : (Op.equalIn (d + 1) 220 (.string x) (.string y)).run Tryz.prog w = .ok (decide (x = y)) w := by
  simp [Op.equalIn, run_underlying Tryz.underlying220, ba_dec]
theorem eqIn_prim (d : Nat) (x y : ByteArray) (w : World) : (Op.equalIn (d + 1) 168 (.string x) (.string y)).run Tryz.prog w = .ok (decide (x = y)) w := by
  simp [Op.equalIn, run_underlying Tryz.underlying168, ba_dec]
theorem eql_num (x y : Int) (w : World) : (binOp .eql 155 (.iface 162 (.int .i64 x)) (.iface 162 (.int .i64 y))).run Tryz.prog w = .ok (.bool (decide (x = y))) w := eql_of ((eq_iface 9999 162 _ _ w (by kernel_rfl)).trans (eqIn_num 9998 x y w))
theorem eql_tru (x y : Bool) (w : World) : (binOp .eql 155 (.iface 163 (.bool x)) (.iface 163 (.bool y))).run Tryz.prog w = .ok (.bool (decide (x = y))) w := eql_of ((eq_iface 9999 163 _ _ w (by kernel_rfl)).trans (eqIn_tru 9998 x y w))
theorem eql_sym (x y : ByteArray) (w : World) : (binOp .eql 155 (.iface 220 (.string x)) (.iface 220 (.string y))).run Tryz.prog w = .ok (.bool (decide (x = y))) w := eql_of ((eq_iface 9999 220 _ _ w (by kernel_rfl)).trans (eqIn_sym 9998 x y w))
theorem eql_prim (x y : ByteArray) (w : World) : (binOp .eql 155 (.iface 168 (.string x)) (.iface 168 (.string y))).run Tryz.prog w = .ok (.bool (decide (x = y))) w := eql_of ((eq_iface 9999 168 _ _ w (by kernel_rfl)).trans (eqIn_prim 9998 x y w))
theorem eql_nil (w : World) : (binOp .eql 155 (.iface 242 (.agg #[])) (.iface 242 (.agg #[]))).run Tryz.prog w = .ok (.bool true) w := by kernel_rfl
theorem nodup_getD {l : List Nat} (hl : l.Nodup) {i j : Nat} (hi : i < l.length) (hj : j < l.length) (h : i ≠ j) : l.getD i 0 ≠ l.getD j 0 := by
  rw [show l.getD i 0 = l[i] by simp [List.getD, List.getElem?_eq_getElem hi], show l.getD j 0 = l[j] by simp [List.getD, List.getElem?_eq_getElem hj]]
  have nd := List.pairwise_iff_getElem.1 hl
  rcases Nat.lt_or_gt_of_ne h with hl | hl
  · exact nd i j hi hj hl
  · exact fun e => nd j i hj hi hl e.symm
theorem Rel.pairAt {B rb : Nat} {gb : Rc} {m : Mm} {σ : St} {w : World} (h : Rel B rb gb m σ w) {i : Nat} (hi : i < m.pr.length) : ∃ cs, w.heap[m.pr.getD i 0]? = some (.cells cs 245 (0, 0)) := by
  have e : m.pr[i]? = some (m.pr.getD i 0) := by simp [List.getD, List.getElem?_eq_getElem hi]
  obtain ⟨p, _, hp, _⟩ := h.lt e
  exact hp.block
theorem Rel.procAt {B rb : Nat} {gb : Rc} {m : Mm} {σ : St} {w : World} (h : Rel B rb gb m σ w) {i : Nat} (hi : i < m.pc.length) : ∃ q fp, σ.procs[i]? = some q ∧ w.heap[m.pc.getD i 0]? = some (.cells #[.pointer (some ⟨gb.pb, gb.po + 2 * q.proto, none⟩), .pointer (some ⟨fp, 0, none⟩)] 172 (0, 0)) ∧ Fr w m σ.rows fp q.env := by
  have e : m.pc[i]? = some (m.pc.getD i 0) := by simp [List.getD, List.getElem?_eq_getElem hi]
  have hq : σ.procs[i]? = some (σ.procs[i]'(by rw [← h.lc]; exact hi)) := List.getElem?_eq_getElem _
  obtain ⟨fp, h1, h3⟩ := h.pc i _ _ hq e
  exact ⟨_, fp, hq, h1, h3⟩
/-- Two values compared. -/
theorem eql_any {B rb : Nat} {gb : Rc} {m : Mm} {σ : St} {w : World} (h : Rel B rb gb m σ w) (a b : Val) (ha : VOk m a) (hb : VOk m b) : (binOp .eql 155 (.iface (vT a) (vX m a)) (.iface (vT b) (vX m b))).run Tryz.prog w = .ok (.bool (decide (a = b))) w := by
  by_cases ht : vT a = vT b
  · cases a <;> cases b <;> first | (exfalso; revert ht; simp [vT]; done) | skip
    · rename_i x y
      rw [show decide (Val.num x = Val.num y) = decide (x = y) by simp]
      exact eql_num x y w
    · rename_i x y
      rw [show decide (Val.tru x = Val.tru y) = decide (x = y) by simp]
      exact eql_tru x y w
    · rename_i x y
      rw [show decide (Val.sym x = Val.sym y) = decide (x = y) by simp]
      exact eql_sym x y w
    · exact (eql_nil w).trans (by simp)
    · rename_i i j
      have hi : i < m.pr.length := ha
      have hj : j < m.pr.length := hb
      obtain ⟨i1, hi1, hc1⟩ := Option.map_eq_some_iff.1 (show (Tryz.prog.info? 243).map (·.comparable) = some true by kernel_rfl)
      obtain ⟨i2, hi2, hc2⟩ := Option.map_eq_some_iff.1 (show (Tryz.prog.info? 245).map (·.size) = some 3 by kernel_rfl)
      by_cases e : i = j
      · subst e
        exact (run_eql_iface_ptr_same w _ Tryz.underlying155 Tryz.underlying243 hi1 hc1 hi2).trans (by simp)
      · obtain ⟨ca, hca⟩ := h.pairAt hi
        obtain ⟨cb, hcb⟩ := h.pairAt hj
        have hne := nodup_getD h.np hi hj e
        exact (run_eql_iface_ptr_other w (a := ⟨m.pr.getD i 0, 0, none⟩) (b := ⟨m.pr.getD j 0, 0, none⟩) Tryz.underlying155 Tryz.underlying243 hi1 hc1 hi2 (by rw [hc2]; decide) (by simpa using hne) hca hcb).trans (by simp [e])
    · rename_i x y
      rw [show decide (Val.prim x = Val.prim y) = decide (x = y) by simp]
      exact eql_prim x y w
    · rename_i i j
      have hi : i < m.pc.length := ha
      have hj : j < m.pc.length := hb
      obtain ⟨i1, hi1, hc1⟩ := Option.map_eq_some_iff.1 (show (Tryz.prog.info? 169).map (·.comparable) = some true by kernel_rfl)
      obtain ⟨i2, hi2, hc2⟩ := Option.map_eq_some_iff.1 (show (Tryz.prog.info? 172).map (·.size) = some 2 by kernel_rfl)
      by_cases e : i = j
      · subst e
        exact (run_eql_iface_ptr_same w _ Tryz.underlying155 Tryz.underlying169 hi1 hc1 hi2).trans (by simp)
      · obtain ⟨qa, _, _, hca, _⟩ := h.procAt hi
        obtain ⟨qb, _, _, hcb, _⟩ := h.procAt hj
        have hne := nodup_getD h.nc hi hj e
        exact (run_eql_iface_ptr_other w (a := ⟨m.pc.getD i 0, 0, none⟩) (b := ⟨m.pc.getD j 0, 0, none⟩) Tryz.underlying155 Tryz.underlying169 hi1 hc1 hi2 (by rw [hc2]; decide) (by simpa using hne) hca hcb).trans (by simp [e])
  · rw [show decide (a = b) = false by simp; rintro rfl; exact ht rfl]
    exact eql_other _ _ _ _ ht w
theorem yes158 (v : Value) (w : World) : (Instr.typeAssert (.iface 243 v) 155 243 true).run Tryz.prog w = .ok (.tuple #[v, .bool true]) w := by
  simp [Instr.typeAssert, run_underlying Tryz.underlying243]
theorem no114 (t : TypeId) (h : t ≠ 168) (v : Value) (w : World) : (Instr.typeAssert (.iface t v) 155 168 true).run Tryz.prog w = .ok (.tuple #[.string ⟨#[]⟩, .bool false]) w := by
  obtain ⟨i, hi, hz⟩ := Option.map_eq_some_iff.1 (show (Tryz.prog.info? 168).map (·.zero) = some (some (.string ⟨#[]⟩)) by kernel_rfl)
  simp [Instr.typeAssert, run_underlying Tryz.underlying168, hi, hz, h]
theorem no115 (t : TypeId) (h : t ≠ 169) (v : Value) (w : World) : (Instr.typeAssert (.iface t v) 155 169 true).run Tryz.prog w = .ok (.tuple #[.pointer none, .bool false]) w := by
  obtain ⟨i, hi, hz⟩ := Option.map_eq_some_iff.1 (show (Tryz.prog.info? 169).map (·.zero) = some (some (.pointer none)) by kernel_rfl)
  simp [Instr.typeAssert, run_underlying Tryz.underlying169, hi, hz, h]
set_option maxRecDepth 100000 in
set_option maxHeartbeats 800000 in
theorem pairOf_yes (v : Value) (w : World) : Calls Tryz.prog 142 #[.iface 243 v] w fun e w' => e = .returned v ∧ w' = w := by
  have hta := yes158 v
  go_enter Tryz.func142, Tryz.ntmps142
  go_wp2_with fail
  refine (Must_yes _ _).mono ?_
  rintro e w1 ⟨rfl, rfl⟩
  go_wp2_with fail
  go_ret
  exact ⟨rfl, rfl⟩
set_option maxRecDepth 100000 in
set_option maxHeartbeats 800000 in
theorem pairOf_no (t : TypeId) (h : t ≠ 243) (v : Value) (w : World) : Calls Tryz.prog 142 #[.iface t v] w fun e w' => e = .panicked (endP 4) ∧ w' = w := by
  have hta := no158 t h v
  clear h
  go_enter Tryz.func142, Tryz.ntmps142
  go_wp2_with fail
  refine (Must_no _ _).mono ?_
  rintro e w1 ⟨rfl, rfl⟩
  go_wp2_with fail
  exact ⟨rfl, rfl, rfl⟩
set_option maxRecDepth 100000 in
set_option maxHeartbeats 800000 in
theorem numberOf_no (t : TypeId) (h : t ≠ 162) (v : Value) (w : World) : Calls Tryz.prog 145 #[.iface t v] w fun e w' => e = .panicked (endP 4) ∧ w' = w := by
  have hta := no104 t h v
  clear h
  go_enter Tryz.func145, Tryz.ntmps145
  go_wp2_with fail
  refine (Must_no _ _).mono ?_
  rintro e w1 ⟨rfl, rfl⟩
  go_wp2_with fail
  exact ⟨rfl, rfl, rfl⟩
theorem neP {p : ByteArray} {l : List UInt8} (h : ¬ p = ⟨l.toArray⟩) : (p.toList == l) = false := by
  have := beqS_ne h
  simpa [ByteArray.toList_eq] using this
end
section
set_option linter.unusedVariables false
set_option linter.unusedSimpArgs false
open Go.RowKit
open Go.Proofs.YthikdpclifeonaaGreatDoor

theorem vT_pair {v : Val} (h : ¬ ∃ i, v = .pair i) : vT v ≠ 243 := by
  cases v <;> simp [vT] <;> exact h ⟨_, rfl⟩
theorem vT_num {v : Val} (h : ¬ ∃ n, v = .num n) : vT v ≠ 162 := by
  cases v <;> simp [vT] <;> exact h ⟨_, rfl⟩
theorem one_car (v : Val) (σ : St) (h : ¬ ∃ i, v = .pair i) : oneF carB v σ = (.bad 4, σ) := by
  unfold oneF
  rw [if_pos rfl]
  cases v <;> first | rfl | exact absurd ⟨_, rfl⟩ h
theorem one_cdr (v : Val) (σ : St) (h : ¬ ∃ i, v = .pair i) : oneF cdrB v σ = (.bad 4, σ) := by
  unfold oneF
  rw [if_neg (by decide), if_pos rfl]
  cases v <;> first | rfl | exact absurd ⟨_, rfl⟩ h
theorem one_pair (v : Val) (σ : St) (h : ¬ ∃ i, v = .pair i) : oneF pairQ v σ = (.ok (.tru false), σ) := by
  unfold oneF
  rw [if_neg (by decide), if_neg (by decide), if_neg (by decide), if_pos rfl]
  cases v <;> first | rfl | exact absurd ⟨_, rfl⟩ h
set_option maxRecDepth 100000 in
set_option maxHeartbeats 1600000 in
theorem ofOne_any (B rb : Nat) (gb : Rc) (m : Mm) (σ : St) (p : ByteArray) (v : Val) (w : World) (h : Rel B rb gb m σ w) (hs : B ≤ w.heap.size) (hv : VOk m v) :
    Calls Tryz.prog 126 #[.string p, .iface (vT v) (vX m v)] w (ToldR B rb gb m w (oneF p v σ)) := by
  by_cases p1 : p = carB
  · subst p1
    by_cases hp : ∃ i, v = .pair i
    · obtain ⟨i, rfl⟩ := hp
      have hi : i < m.pr.length := hv
      have e : m.pr[i]? = some (m.pr.getD i 0) := by simp [List.getD, List.getElem?_eq_getElem hi]
      have HV := hidd (values_any B rb gb m σ i _ w h hs e)
      rw [show oneF carB (.pair i) σ = (.ok (valuesF i σ).1.1, (valuesF i σ).2) from rfl]
      unfold carB
      show Calls Tryz.prog 126 #[.string _, .iface 243 (.pointer (some ⟨m.pr.getD i 0, 0, none⟩))] w _
      generalize m.pr.getD i 0 = k at *
      clear e h hv hi
      go_enter Tryz.func126, Tryz.ntmps126
      go_wp2_with fail
      refine (pairOf_yes _ _).mono ?_
      rintro e w1 ⟨rfl, rfl⟩
      go_wp2_with fail
      refine HV.out.mono ?_
      rintro e w2 ⟨m2, rfl, r2, n2, o2, o3, k2⟩
      unfold vV
      go_wp2_with fail
      go_ret
      exact ⟨m2, r2, n2, k2, rfl, o2⟩
    · have ht : vT v ≠ 243 := vT_pair hp
      have HE : Hid (ToldR B rb gb m w (.bad 4, σ) (.panicked (endP 4)) w) := ⟨m, h, New.refl m w, KR.refl _ _ _ _ _, rfl⟩
      rw [one_car v σ hp]
      unfold carB
      have HN := hidd (pairOf_no (vT v) ht (vX m v))
      generalize vT v = t at *
      generalize vX m v = x at *
      clear h ht hv hp
      go_enter Tryz.func126, Tryz.ntmps126
      go_wp2_with fail
      refine (HN.out _).mono ?_
      rintro e w1 ⟨rfl, rfl⟩
      go_wp2_with fail
      exact ⟨rfl, HE.out⟩
  have q1 : (p.toList == [99, 97, 114]) = false := neP p1
  by_cases p2 : p = cdrB
  · subst p2
    by_cases hp : ∃ i, v = .pair i
    · obtain ⟨i, rfl⟩ := hp
      have hi : i < m.pr.length := hv
      have e : m.pr[i]? = some (m.pr.getD i 0) := by simp [List.getD, List.getElem?_eq_getElem hi]
      have HV := hidd (values_any B rb gb m σ i _ w h hs e)
      rw [show oneF cdrB (.pair i) σ = (.ok (valuesF i σ).1.2, (valuesF i σ).2) from by unfold oneF; rw [if_neg (by decide), if_pos rfl]]
      unfold cdrB
      show Calls Tryz.prog 126 #[.string _, .iface 243 (.pointer (some ⟨m.pr.getD i 0, 0, none⟩))] w _
      generalize m.pr.getD i 0 = k at *
      clear e h hv hi
      go_enter Tryz.func126, Tryz.ntmps126
      go_wp2_with fail
      refine (pairOf_yes _ _).mono ?_
      rintro e w1 ⟨rfl, rfl⟩
      go_wp2_with fail
      refine HV.out.mono ?_
      rintro e w2 ⟨m2, rfl, r2, n2, o2, o3, k2⟩
      unfold vV
      go_wp2_with fail
      go_ret
      exact ⟨m2, r2, n2, k2, rfl, o3⟩
    · have ht : vT v ≠ 243 := vT_pair hp
      have HE : Hid (ToldR B rb gb m w (.bad 4, σ) (.panicked (endP 4)) w) := ⟨m, h, New.refl m w, KR.refl _ _ _ _ _, rfl⟩
      rw [one_cdr v σ hp]
      unfold cdrB
      have HN := hidd (pairOf_no (vT v) ht (vX m v))
      generalize vT v = t at *
      generalize vX m v = x at *
      clear h ht hv hp
      go_enter Tryz.func126, Tryz.ntmps126
      go_wp2_with fail
      refine (HN.out _).mono ?_
      rintro e w1 ⟨rfl, rfl⟩
      go_wp2_with fail
      exact ⟨rfl, HE.out⟩
  have q2 : (p.toList == [99, 100, 114]) = false := neP p2
  by_cases p3 : p = nullB
  · subst p3
    rw [show oneF nullB v σ = (.ok (.tru (decide (v = .nil))), σ) from by unfold oneF; rw [if_neg p1, if_neg p2, if_pos rfl]]
    unfold nullB
    have HQ : ∀ W : World, W = w → (binOp .eql 155 (.iface (vT v) (vX m v)) (.iface 242 (.agg #[]))).run Tryz.prog W = .ok (.bool (decide (v = .nil))) W := fun W e => by subst e; exact eql_any h v .nil hv trivial
    have HE : Hid (∀ q, ToldR B rb gb m w (.ok (.tru q), σ) (.returned (.iface 163 (.bool q))) w) := fun q => ⟨m, h, New.refl m w, KR.refl _ _ _ _ _, rfl, trivial⟩
    have hq := HQ w rfl
    generalize decide (v = .nil) = q at *
    generalize vT v = t at *
    generalize vX m v = x at *
    clear h hv HQ
    go_enter Tryz.func126, Tryz.ntmps126
    go_wp2_with fail
    go_ret
    exact HE.out q
  have q3 : (p.toList == [110, 117, 108, 108, 63]) = false := neP p3
  by_cases p4 : p = pairQ
  · subst p4
    by_cases hp : ∃ i, v = .pair i
    · obtain ⟨i, rfl⟩ := hp
      rw [show oneF pairQ (.pair i) σ = (.ok (.tru true), σ) from by unfold oneF; rw [if_neg (by decide), if_neg (by decide), if_neg (by decide), if_pos rfl]]
      unfold pairQ
      have HE : Hid (ToldR B rb gb m w (.ok (.tru true), σ) (.returned (.iface 163 (.bool true))) w) := ⟨m, h, New.refl m w, KR.refl _ _ _ _ _, rfl, trivial⟩
      show Calls Tryz.prog 126 #[.string _, .iface 243 (vX m (.pair i))] w _
      generalize vX m (.pair i) = x at *
      have hta := yes158 x
      clear h hv
      go_enter Tryz.func126, Tryz.ntmps126
      go_wp2_with fail
      go_ret
      exact HE.out
    · have ht : vT v ≠ 243 := vT_pair hp
      rw [one_pair v σ hp]
      unfold pairQ
      have HE : Hid (ToldR B rb gb m w (.ok (.tru false), σ) (.returned (.iface 163 (.bool false))) w) := ⟨m, h, New.refl m w, KR.refl _ _ _ _ _, rfl, trivial⟩
      have hta := no158 (vT v) ht (vX m v)
      generalize vT v = t at *
      generalize vX m v = x at *
      clear h ht hv hp
      go_enter Tryz.func126, Tryz.ntmps126
      go_wp2_with fail
      go_ret
      exact HE.out
  have q4 : (p.toList == [112, 97, 105, 114, 63]) = false := neP p4
  rw [show oneF p v σ = (.ok (.tru (decide (v = .tru false))), σ) from by unfold oneF; rw [if_neg p1, if_neg p2, if_neg p3, if_neg p4]]
  have HE : Hid (∀ q, ToldR B rb gb m w (.ok (.tru q), σ) (.returned (.iface 163 (.bool q))) w) := fun q => ⟨m, h, New.refl m w, KR.refl _ _ _ _ _, rfl, trivial⟩
  have hq : (binOp .eql 155 (.iface (vT v) (vX m v)) (.iface 163 (.bool false))).run Tryz.prog w = .ok (.bool (decide (v = .tru false))) w := eql_any h v (.tru false) hv trivial
  generalize decide (v = .tru false) = q at *
  generalize vT v = t at *
  generalize vX m v = x at *
  clear h hv p1 p2 p3 p4
  go_enter Tryz.func126, Tryz.ntmps126
  go_wp2_with fail
  go_ret
  exact HE.out q
end
section
set_option linter.unusedVariables false
set_option linter.unusedSimpArgs false
open Go.RowKit
open Go.Proofs.YthikdpclifeonaaGreatDoor

/-- What is told of what is reckoned. -/
def ToldN (r : Res Val) (w : World) (e : Ending) (w' : World) : Prop := w' = w ∧ match r with | .ok v => ∀ m, e = .returned (.iface (vT v) (vX m v)) ∧ VOk m v | .bad h => e = .panicked (endP h)
theorem sum_told {n : Int} {w w' : World} {e : Ending} (h : ValOr (rangeN n) (.iface 162 (.int .i64 n)) 6 w e w') : ToldN (sumF n) w e w' := by
  obtain ⟨h1, h2⟩ := h
  refine ⟨h1, ?_⟩
  unfold sumF
  by_cases hr : inR n = true
  · rw [if_pos hr]
    rw [show rangeN n = true from hr, if_pos rfl] at h2
    exact fun m => ⟨h2, hr⟩
  · rw [if_neg hr]
    rw [if_neg (show ¬ rangeN n = true from hr)] at h2
    exact h2
set_option maxRecDepth 100000 in
set_option maxHeartbeats 3200000 in
theorem ofNumbers_all (p : ByteArray) (a b : Int) (w : World) (h1 : inR a = true) (h2 : inR b = true) : Calls Tryz.prog 144 #[.string p, .int .i64 a, .int .i64 b] w (ToldN (numsF p a b) w) := by
  have g1 : rangeN a = true := h1
  have g2 : rangeN b = true := h2
  unfold numsF
  by_cases p1 : p = ltB
  · rw [if_pos p1]
    subst p1
    refine (ofNumbers_any 3 a b w g1 g2).mono ?_
    rintro e w' ⟨rfl, rfl⟩
    exact ⟨rfl, fun m => ⟨rfl, trivial⟩⟩
  rw [if_neg p1]
  by_cases p2 : p = eqB
  · rw [if_pos p2]
    subst p2
    unfold eqB
    clear h1 h2 g1 g2 p1
    go_enter Tryz.func144, Tryz.ntmps144
    go_wp2_with fail
    go_ret
    exact ⟨rfl, fun m => ⟨by rw [beq_dec]; rfl, trivial⟩⟩
  rw [if_neg p2]
  by_cases p3 : p = addB
  · rw [if_pos p3]
    subst p3
    exact (ofNumbers_any 0 a b w g1 g2).mono (fun e w' h => sum_told h)
  rw [if_neg p3]
  by_cases p4 : p = subB
  · rw [if_pos p4]
    subst p4
    exact (ofNumbers_any 1 a b w g1 g2).mono (fun e w' h => sum_told h)
  rw [if_neg p4]
  have q1 : (p.toList == [60]) = false := neP p1
  have q2 : (p.toList == [61]) = false := neP p2
  have q3 : (p.toList == [43]) = false := neP p3
  have q4 : (p.toList == [45]) = false := neP p4
  have PR : Hid (Calls Tryz.prog 163 #[.int .i64 a, .int .i64 b] w fun e w' => (∃ t x, e = .returned (.iface t x) ∨ ∃ q, e = .panicked q) ∧ ToldN (sumF (a * b)) w e w') := (product_any a b w g1 g2).mono (fun e w' h => ⟨by
    obtain ⟨_, h⟩ := h
    cases hq : rangeN (a * b)
    · rw [hq] at h; exact ⟨0, .nilIface, Or.inr ⟨_, h⟩⟩
    · rw [hq] at h; exact ⟨_, _, Or.inl h⟩, sum_told h⟩)
  generalize sumF (a * b) = R at *
  clear p1 p2 p3 p4 h1 h2 g1 g2
  go_enter Tryz.func144, Tryz.ntmps144
  go_wp2_with fail
  refine PR.out.mono ?_
  rintro e w1 ⟨⟨t, x, hx⟩, hT⟩
  have HT := hidd hT
  clear hT
  rcases hx with rfl | ⟨q, rfl⟩
  · go_wp2_with fail
    go_ret
    exact HT.out
  · go_wp2_with fail
    exact ⟨rfl, HT.out⟩
theorem two_noA (p : ByteArray) (a b : Val) (σ : St) (p1 : ¬ p = consF) (p2 : ¬ p = eqQ) (h : ¬ ∃ n, a = .num n) : twoF p a b σ = (.bad 4, σ) := by
  unfold twoF
  rw [if_neg p1, if_neg p2]
  cases a <;> first | rfl | exact absurd ⟨_, rfl⟩ h
theorem two_noB (p : ByteArray) (x : Int) (b : Val) (σ : St) (p1 : ¬ p = consF) (p2 : ¬ p = eqQ) (h : ¬ ∃ n, b = .num n) : twoF p (.num x) b σ = (.bad 4, σ) := by
  unfold twoF
  rw [if_neg p1, if_neg p2]
  cases b <;> first | rfl | exact absurd ⟨_, rfl⟩ h
set_option maxRecDepth 100000 in
set_option maxHeartbeats 3200000 in
theorem ofTwo_any (B rb : Nat) (gb : Rc) (m : Mm) (σ : St) (p : ByteArray) (a b : Val) (w : World) (h : Rel B rb gb m σ w) (hs : B ≤ w.heap.size) (ha : VOk m a) (hb : VOk m b) :
    Calls Tryz.prog 127 #[.string p, .iface (vT a) (vX m a), .iface (vT b) (vX m b)] w (ToldR B rb gb m w (twoF p a b σ)) := by
  by_cases p1 : p = consF
  · subst p1
    rw [show twoF consF a b σ = (.ok (.pair σ.pairs.length), { σ with pairs := σ.pairs ++ [.made a b] }) from rfl]
    unfold consF
    have x : MmX m { m with pr := m.pr ++ [w.heap.size] } := ⟨⟨_, rfl⟩, ⟨[], by simp⟩, ⟨[], by simp⟩⟩
    have HR := hidd (h.pair hs #[.iface (vT a) (vX m a), .iface (vT b) (vX m b), .slice none 0 0] (.made a b) ⟨ha.up x, hb.up x, by rw [vV_up ha x, vV_up hb x]; exact World.alloc_heap_new w _⟩)
    have HLP := hidd h.lp
    generalize vT a = ta at *
    generalize vT b = tb at *
    generalize vX m a = xa at *
    generalize vX m b = xb at *
    clear h ha hb x
    go_enter Tryz.func127, Tryz.ntmps127
    go_wp2_with fail
    go_ret
    refine ⟨_, HR.out.1, HR.out.2, KR.ofBelow ((Below.refl _ _).alloc (Nat.le_refl _) _), ?_, ?_⟩
    · show Ending.returned _ = Ending.returned (.iface 243 (.pointer (some ⟨(m.pr ++ [w.heap.size]).getD σ.pairs.length 0, 0, none⟩)))
      rw [← HLP.out]
      simp
    · show σ.pairs.length < (m.pr ++ [w.heap.size]).length
      rw [← HLP.out]
      simp
  have q1 : (p.toList == [99, 111, 110, 115]) = false := neP p1
  by_cases p2 : p = eqQ
  · subst p2
    rw [show twoF eqQ a b σ = (.ok (.tru (decide (a = b))), σ) from by unfold twoF; rw [if_neg p1, if_pos rfl]]
    unfold eqQ
    have hq := eql_any h a b ha hb
    have HE : Hid (∀ q, ToldR B rb gb m w (.ok (.tru q), σ) (.returned (.iface 163 (.bool q))) w) := fun q => ⟨m, h, New.refl m w, KR.refl _ _ _ _ _, rfl, trivial⟩
    generalize decide (a = b) = q at *
    generalize vT a = ta at *
    generalize vT b = tb at *
    generalize vX m a = xa at *
    generalize vX m b = xb at *
    clear h ha hb p1 q1
    go_enter Tryz.func127, Tryz.ntmps127
    go_wp2_with fail
    go_ret
    exact HE.out q
  have q2 : (p.toList == [101, 113, 63]) = false := neP p2
  by_cases hA : ∃ n, a = .num n
  · obtain ⟨x, rfl⟩ := hA
    by_cases hB : ∃ n, b = .num n
    · obtain ⟨y, rfl⟩ := hB
      rw [show twoF p (.num x) (.num y) σ = (numsF p x y, σ) from by unfold twoF; rw [if_neg p1, if_neg p2]]
      have ON : Hid (Calls Tryz.prog 144 #[.string p, .int .i64 x, .int .i64 y] w fun e w' => (∃ t x, e = .returned (.iface t x) ∨ ∃ q, e = .panicked q) ∧ ToldR B rb gb m w (numsF p x y, σ) e w') := (ofNumbers_all p x y w ha hb).mono (fun e w' hh => by
        obtain ⟨rfl, hh⟩ := hh
        refine ⟨?_, m, h, New.refl m _, KR.refl _ _ _ _ _, ?_⟩
        · cases hn : numsF p x y with
          | ok v => rw [hn] at hh; exact ⟨_, _, Or.inl (hh m).1⟩
          | bad q => rw [hn] at hh; exact ⟨0, .nilIface, Or.inr ⟨_, hh⟩⟩
        · cases hn : numsF p x y with
          | ok v => rw [hn] at hh; exact hh m
          | bad q => rw [hn] at hh; exact hh)
      have NA := hidd (fun w => numberOf_any x w)
      have NB := hidd (fun w => numberOf_any y w)
      show Calls Tryz.prog 127 #[.string p, .iface 162 (.int .i64 x), .iface 162 (.int .i64 y)] w _
      generalize (numsF p x y, σ) = R at *
      clear h ha hb p1 p2
      go_enter Tryz.func127, Tryz.ntmps127
      go_wp2_with fail
      refine (NA.out _).mono ?_
      rintro e w1 ⟨rfl, rfl⟩
      go_wp2_with fail
      refine (NB.out _).mono ?_
      rintro e w1 ⟨rfl, rfl⟩
      go_wp2_with fail
      refine ON.out.mono ?_
      rintro e w2 ⟨⟨t, x, hx⟩, hT⟩
      have HT := hidd hT
      clear hT
      rcases hx with rfl | ⟨q, rfl⟩
      · go_wp2_with fail
        go_ret
        exact HT.out
      · go_wp2_with fail
        exact ⟨rfl, HT.out⟩
    · rw [two_noB p x b σ p1 p2 hB]
      have ht : vT b ≠ 162 := vT_num hB
      have HE : Hid (ToldR B rb gb m w (.bad 4, σ) (.panicked (endP 4)) w) := ⟨m, h, New.refl m w, KR.refl _ _ _ _ _, rfl⟩
      have NA := hidd (fun w => numberOf_any x w)
      have NB := hidd (numberOf_no (vT b) ht (vX m b))
      generalize vT b = tb at *
      generalize vX m b = xb at *
      show Calls Tryz.prog 127 #[.string p, .iface 162 (.int .i64 x), .iface tb xb] w _
      clear h ha hb p1 p2 ht hB
      go_enter Tryz.func127, Tryz.ntmps127
      go_wp2_with fail
      refine (NA.out _).mono ?_
      rintro e w1 ⟨rfl, rfl⟩
      go_wp2_with fail
      refine (NB.out _).mono ?_
      rintro e w1 ⟨rfl, rfl⟩
      go_wp2_with fail
      exact ⟨rfl, HE.out⟩
  · rw [two_noA p a b σ p1 p2 hA]
    have ht : vT a ≠ 162 := vT_num hA
    have HE : Hid (ToldR B rb gb m w (.bad 4, σ) (.panicked (endP 4)) w) := ⟨m, h, New.refl m w, KR.refl _ _ _ _ _, rfl⟩
    have NA := hidd (numberOf_no (vT a) ht (vX m a))
    generalize vT b = tb at *
    generalize vX m b = xb at *
    generalize vT a = ta at *
    generalize vX m a = xa at *
    clear h ha hb p1 p2 ht hA
    go_enter Tryz.func127, Tryz.ntmps127
    go_wp2_with fail
    refine (NA.out _).mono ?_
    rintro e w1 ⟨rfl, rfl⟩
    go_wp2_with fail
    exact ⟨rfl, HE.out⟩
end
end Go.Proofs.YthikdpclifeonaaGreatDoor.V
