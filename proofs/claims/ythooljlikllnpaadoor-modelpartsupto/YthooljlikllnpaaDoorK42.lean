/- Chapter 7: values compared; a pair, a number asked for; primitives of one value. Chapter 7: the last of a row of expressions; one of two. -/
import Derived.LaidEql
import Derived.MapKept
import Derived.Test.YthooljlikllnpaaDoorK37
import Derived.Test.YthooljlikllnpaaDoorK40
import Derived.Test.YthooljlikllnpaaDoorK41
namespace Go.Proofs.YthooljlikllnpaaDoor
section
set_option linter.unusedVariables false
set_option linter.unusedSimpArgs false
open Go.RowKit

theorem eq_iface (d : Nat) (t : TypeId) (x y : Value) (w : World) (hc : (Tryd.prog.info? t).map (·.comparable) = some true) : (Op.equalIn (d + 1) 77 (.iface t x) (.iface t y)).run Tryd.prog w = (Op.equalIn d t x y).run Tryd.prog w := by
  obtain ⟨i, hi, hcc⟩ := Option.map_eq_some_iff.1 hc
  simp [Op.equalIn, run_underlying Tryd.underlying77, typeInfo, hi, hcc]
theorem eql_of {t u : TypeId} {x y : Value} {w : World} {q : Bool} (h : (Op.equalIn 10000 77 (.iface t x) (.iface u y)).run Tryd.prog w = .ok q w) : (binOp .eql 77 (.iface t x) (.iface u y)).run Tryd.prog w = .ok (.bool q) w := by
  have e : (Op.equal 77 (.iface t x) (.iface u y)).run Tryd.prog w = .ok q w := h
  simp [binOp, e]
theorem eql_other (t u : TypeId) (x y : Value) (h : t ≠ u) (w : World) : (binOp .eql 77 (.iface t x) (.iface u y)).run Tryd.prog w = .ok (.bool false) w := eql_of (equalIn_other 9999 t u x y h w)
theorem eqIn_num (d : Nat) (x y : Int) (w : World) : (Op.equalIn (d + 1) 104 (.int .i64 x) (.int .i64 y)).run Tryd.prog w = .ok (decide (x = y)) w := by
  simp [Op.equalIn, run_underlying Tryd.underlying104, beq_dec]
theorem eqIn_tru (d : Nat) (x y : Bool) (w : World) : (Op.equalIn (d + 1) 105 (.bool x) (.bool y)).run Tryd.prog w = .ok (decide (x = y)) w := by
  cases x <;> cases y <;> simp [Op.equalIn, run_underlying Tryd.underlying105]
theorem ba_dec (x y : ByteArray) : (x == y) = decide (x = y) := by
  by_cases h : x = y
  · subst h
    rw [decide_eq_true rfl]
    exact (MapKept.bytes_beq x x).2 rfl
  · rw [decide_eq_false h]
    cases e : (x == y) with
    | false => rfl
    | true => exact absurd ((MapKept.bytes_beq x y).1 e) h
theorem eqIn_sym (d : Nat) (x y : ByteArray) (w : World) : (Op.equalIn (d + 1) 137 (.string x) (.string y)).run Tryd.prog w = .ok (decide (x = y)) w := by
  simp [Op.equalIn, run_underlying Tryd.underlying137, ba_dec]
theorem eqIn_prim (d : Nat) (x y : ByteArray) (w : World) : (Op.equalIn (d + 1) 114 (.string x) (.string y)).run Tryd.prog w = .ok (decide (x = y)) w := by
  simp [Op.equalIn, run_underlying Tryd.underlying114, ba_dec]
theorem eql_num (x y : Int) (w : World) : (binOp .eql 77 (.iface 104 (.int .i64 x)) (.iface 104 (.int .i64 y))).run Tryd.prog w = .ok (.bool (decide (x = y))) w := eql_of ((eq_iface 9999 104 _ _ w (by kernel_rfl)).trans (eqIn_num 9998 x y w))
theorem eql_tru (x y : Bool) (w : World) : (binOp .eql 77 (.iface 105 (.bool x)) (.iface 105 (.bool y))).run Tryd.prog w = .ok (.bool (decide (x = y))) w := eql_of ((eq_iface 9999 105 _ _ w (by kernel_rfl)).trans (eqIn_tru 9998 x y w))
theorem eql_sym (x y : ByteArray) (w : World) : (binOp .eql 77 (.iface 137 (.string x)) (.iface 137 (.string y))).run Tryd.prog w = .ok (.bool (decide (x = y))) w := eql_of ((eq_iface 9999 137 _ _ w (by kernel_rfl)).trans (eqIn_sym 9998 x y w))
theorem eql_prim (x y : ByteArray) (w : World) : (binOp .eql 77 (.iface 114 (.string x)) (.iface 114 (.string y))).run Tryd.prog w = .ok (.bool (decide (x = y))) w := eql_of ((eq_iface 9999 114 _ _ w (by kernel_rfl)).trans (eqIn_prim 9998 x y w))
theorem eql_nil (w : World) : (binOp .eql 77 (.iface 157 (.agg #[])) (.iface 157 (.agg #[]))).run Tryd.prog w = .ok (.bool true) w := by kernel_rfl
theorem nodup_getD {l : List Nat} (hl : l.Nodup) {i j : Nat} (hi : i < l.length) (hj : j < l.length) (h : i ≠ j) : l.getD i 0 ≠ l.getD j 0 := by
  rw [show l.getD i 0 = l[i] by simp [List.getD, List.getElem?_eq_getElem hi], show l.getD j 0 = l[j] by simp [List.getD, List.getElem?_eq_getElem hj]]
  have nd := List.pairwise_iff_getElem.1 hl
  rcases Nat.lt_or_gt_of_ne h with hl | hl
  · exact nd i j hi hj hl
  · exact fun e => nd j i hj hi hl e.symm
theorem Rel.pairAt {B rb gb : Nat} {m : Mm} {σ : St} {w : World} (h : Rel B rb gb m σ w) {i : Nat} (hi : i < m.pr.length) : ∃ cs, w.heap[m.pr.getD i 0]? = some (.cells cs 160 (0, 0)) := by
  have e : m.pr[i]? = some (m.pr.getD i 0) := by simp [List.getD, List.getElem?_eq_getElem hi]
  obtain ⟨p, _, hp, _⟩ := h.lt e
  exact hp.block
theorem Rel.procAt {B rb gb : Nat} {m : Mm} {σ : St} {w : World} (h : Rel B rb gb m σ w) {i : Nat} (hi : i < m.pc.length) : ∃ q lb lo g fp, σ.procs[i]? = some q ∧ w.heap[m.pc.getD i 0]? = some (.cells #[.int .i64 q.args, .pointer (some ⟨lb, lo, none⟩), .pointer (some ⟨fp, 0, none⟩)] 117 (0, 0)) ∧ Cn B w g lb lo q.body ∧ Fr w m σ.rows fp q.env := by
  have e : m.pc[i]? = some (m.pc.getD i 0) := by simp [List.getD, List.getElem?_eq_getElem hi]
  have hq : σ.procs[i]? = some (σ.procs[i]'(by rw [← h.lc]; exact hi)) := List.getElem?_eq_getElem _
  obtain ⟨lb, lo, g, fp, h1, h2, h3⟩ := h.pc i _ _ hq e
  exact ⟨_, lb, lo, g, fp, hq, h1, h2, h3⟩
/-- Two values compared. -/
theorem eql_any {B rb gb : Nat} {m : Mm} {σ : St} {w : World} (h : Rel B rb gb m σ w) (a b : Val) (ha : VOk m a) (hb : VOk m b) : (binOp .eql 77 (.iface (vT a) (vX m a)) (.iface (vT b) (vX m b))).run Tryd.prog w = .ok (.bool (decide (a = b))) w := by
  by_cases ht : vT a = vT b
  · cases a <;> cases b <;> first | (exfalso; revert ht; simp [vT]; done) | skip
    · rename_i x y
      rw [show decide (Val.num x = Val.num y) = decide (x = y) by simp]
      exact eql_num x y w
    · rename_i x y
      rw [show decide (Val.tru x = Val.tru y) = decide (x = y) by simp]
      exact eql_tru x y w
    · rename_i x y
      rw [show decide (Val.sym x = Val.sym y) = decide (x = y) by simp]
      exact eql_sym x y w
    · exact (eql_nil w).trans (by simp)
    · rename_i i j
      have hi : i < m.pr.length := ha
      have hj : j < m.pr.length := hb
      obtain ⟨i1, hi1, hc1⟩ := Option.map_eq_some_iff.1 (show (Tryd.prog.info? 158).map (·.comparable) = some true by kernel_rfl)
      obtain ⟨i2, hi2, hc2⟩ := Option.map_eq_some_iff.1 (show (Tryd.prog.info? 160).map (·.size) = some 3 by kernel_rfl)
      by_cases e : i = j
      · subst e
        exact (run_eql_iface_ptr_same w _ Tryd.underlying77 Tryd.underlying158 hi1 hc1 hi2).trans (by simp)
      · obtain ⟨ca, hca⟩ := h.pairAt hi
        obtain ⟨cb, hcb⟩ := h.pairAt hj
        have hne := nodup_getD h.np hi hj e
        exact (run_eql_iface_ptr_other w (a := ⟨m.pr.getD i 0, 0, none⟩) (b := ⟨m.pr.getD j 0, 0, none⟩) Tryd.underlying77 Tryd.underlying158 hi1 hc1 hi2 (by rw [hc2]; decide) (by simpa using hne) hca hcb).trans (by simp [e])
    · rename_i x y
      rw [show decide (Val.prim x = Val.prim y) = decide (x = y) by simp]
      exact eql_prim x y w
    · rename_i i j
      have hi : i < m.pc.length := ha
      have hj : j < m.pc.length := hb
      obtain ⟨i1, hi1, hc1⟩ := Option.map_eq_some_iff.1 (show (Tryd.prog.info? 115).map (·.comparable) = some true by kernel_rfl)
      obtain ⟨i2, hi2, hc2⟩ := Option.map_eq_some_iff.1 (show (Tryd.prog.info? 117).map (·.size) = some 3 by kernel_rfl)
      by_cases e : i = j
      · subst e
        exact (run_eql_iface_ptr_same w _ Tryd.underlying77 Tryd.underlying115 hi1 hc1 hi2).trans (by simp)
      · obtain ⟨qa, _, _, _, _, _, hca, _⟩ := h.procAt hi
        obtain ⟨qb, _, _, _, _, _, hcb, _⟩ := h.procAt hj
        have hne := nodup_getD h.nc hi hj e
        exact (run_eql_iface_ptr_other w (a := ⟨m.pc.getD i 0, 0, none⟩) (b := ⟨m.pc.getD j 0, 0, none⟩) Tryd.underlying77 Tryd.underlying115 hi1 hc1 hi2 (by rw [hc2]; decide) (by simpa using hne) hca hcb).trans (by simp [e])
  · rw [show decide (a = b) = false by simp; rintro rfl; exact ht rfl]
    exact eql_other _ _ _ _ ht w
theorem yes158 (v : Value) (w : World) : (Instr.typeAssert (.iface 158 v) 77 158 true).run Tryd.prog w = .ok (.tuple #[v, .bool true]) w := by
  simp [Instr.typeAssert, run_underlying Tryd.underlying158]
theorem no114 (t : TypeId) (h : t ≠ 114) (v : Value) (w : World) : (Instr.typeAssert (.iface t v) 77 114 true).run Tryd.prog w = .ok (.tuple #[.string ⟨#[]⟩, .bool false]) w := by
  obtain ⟨i, hi, hz⟩ := Option.map_eq_some_iff.1 (show (Tryd.prog.info? 114).map (·.zero) = some (some (.string ⟨#[]⟩)) by kernel_rfl)
  simp [Instr.typeAssert, run_underlying Tryd.underlying114, hi, hz, h]
theorem no115 (t : TypeId) (h : t ≠ 115) (v : Value) (w : World) : (Instr.typeAssert (.iface t v) 77 115 true).run Tryd.prog w = .ok (.tuple #[.pointer none, .bool false]) w := by
  obtain ⟨i, hi, hz⟩ := Option.map_eq_some_iff.1 (show (Tryd.prog.info? 115).map (·.zero) = some (some (.pointer none)) by kernel_rfl)
  simp [Instr.typeAssert, run_underlying Tryd.underlying115, hi, hz, h]
set_option maxRecDepth 100000 in
set_option maxHeartbeats 800000 in
theorem pairOf_yes (v : Value) (w : World) : Calls Tryd.prog 83 #[.iface 158 v] w fun e w' => e = .returned v ∧ w' = w := by
  have hta := yes158 v
  go_enter Tryd.func83, Tryd.ntmps83
  go_wp2_with fail
  refine (Must_yes _ _).mono ?_
  rintro e w1 ⟨rfl, rfl⟩
  go_wp2_with fail
  go_ret
  exact ⟨rfl, rfl⟩
set_option maxRecDepth 100000 in
set_option maxHeartbeats 800000 in
theorem pairOf_no (t : TypeId) (h : t ≠ 158) (v : Value) (w : World) : Calls Tryd.prog 83 #[.iface t v] w fun e w' => e = .panicked (endP 4) ∧ w' = w := by
  have hta := no158 t h v
  clear h
  go_enter Tryd.func83, Tryd.ntmps83
  go_wp2_with fail
  refine (Must_no _ _).mono ?_
  rintro e w1 ⟨rfl, rfl⟩
  go_wp2_with fail
  exact ⟨rfl, rfl, rfl⟩
set_option maxRecDepth 100000 in
set_option maxHeartbeats 800000 in
theorem numberOf_no (t : TypeId) (h : t ≠ 104) (v : Value) (w : World) : Calls Tryd.prog 86 #[.iface t v] w fun e w' => e = .panicked (endP 4) ∧ w' = w := by
  have hta := no104 t h v
  clear h
  go_enter Tryd.func86, Tryd.ntmps86
  go_wp2_with fail
  refine (Must_no _ _).mono ?_
  rintro e w1 ⟨rfl, rfl⟩
  go_wp2_with fail
  exact ⟨rfl, rfl, rfl⟩
theorem neP {p : ByteArray} {l : List UInt8} (h : ¬ p = ⟨l.toArray⟩) : (p.toList == l) = false := by
  have := beqS_ne h
  simpa [ByteArray.toList_eq] using this
end
section
set_option linter.unusedVariables false
set_option linter.unusedSimpArgs false
open Go.RowKit

/-- What the loop of a sequence keeps. -/
structure LS (B rb gb T f : Nat) (e : List Nat) (ks : List Cor) (m0 : Mm) (σ0 : St) (w0 : World) (j : Nat) (v : Val) (x : Value) (m : Mm) (σ : St) (w : World) : Prop where
  cur : Cur B rb gb m0 σ0 w0 m σ w
  left : σ.left ≤ σ0.left
  calls : σ.calls = σ0.calls
  val : 0 < j → x = .iface (vT v) (vX m v) ∧ VOk m v
  last : lastF (fun k => evalF f k e) ks .nil σ0 = lastF (fun k => evalF f k e) (ks.drop j) v σ
set_option maxRecDepth 100000 in
set_option maxHeartbeats 3200000 in
theorem lastE (B rb gb T f : Nat) (IH : EOK B rb gb T f) (hT : T ≤ B) (m : Mm) (σ : St) (e : List Nat) (fp lb lo cap g : Nat) (ks : List Cor) (w : World) (h : Env B rb gb T f e fp m σ w) (hk : Ks B g lb lo (cnt σ.rows e) ks w) (hcap : ks.length ≤ cap) (hpos : 0 < ks.length) :
    Calls Tryd.prog 46 #[.pointer (some ⟨rb, 0, none⟩), .slice (some ⟨lb, lo, none⟩) ks.length cap, .pointer (some ⟨fp, 0, none⟩)] w (ToldE B rb gb m σ w (lastF (fun k => evalF f k e) ks .nil σ)) := by
  have hn := hk.len
  have HE : Hid (∀ j v x m1 σ1 wr c, LS B rb gb T f e ks m σ w j v x m1 σ1 wr → ks[j]? = some c → Calls Tryd.prog 28 #[.pointer (some ⟨rb, 0, none⟩), .pointer (some ⟨lb, lo + j * 12, none⟩), .pointer (some ⟨fp, 0, none⟩)] wr (ToldE B rb gb m1 σ1 wr (evalF f c e σ1))) := fun j v x m1 σ1 wr c L hc =>
    IH.at (h.go hT L.cur L.left L.calls) (hk.go (L.cur.belowB h.rel h.hs)) (h.cnt L.cur).symm hc
  have H0 : Hid (LS B rb gb T f e ks m σ w 0 .nil .nilIface m σ w) := ⟨Cur.refl h.rel h.sc, Nat.le_refl _, rfl, fun q => absurd q (by omega), rfl⟩
  obtain ⟨n, hn'⟩ : ∃ n, n = ks.length := ⟨_, rfl⟩
  have HN := hidd hn'
  rw [← hn'] at hn hcap hpos ⊢
  clear h hk IH hn'
  go_enter Tryd.func46, Tryd.ntmps46
  go_wp2_with fail
  go_loopw [7, 11] (fun xv ix wr => ∃ (j : Nat) (v : Val) (m1 : Mm) (σ1 : St), j ≤ n ∧ ix = .int .i64 j ∧ LS B rb gb T f e ks m σ w j v xv m1 σ1 wr) (fun _ ix _ => n - (intOf ix).toNat)
  case atStart => exact ⟨0, .nil, m, σ, Nat.zero_le _, rfl, H0.out⟩
  case round =>
    obtain ⟨j, v0, m1, σ1, hj, rfl, hL⟩ := hrel
    have HL := hidd hL
    clear hL
    by_cases hlt : j < n
    · obtain ⟨c, hc⟩ : ∃ c, ks[j]? = some c := ⟨_, List.getElem?_eq_getElem (by rw [← HN.out]; exact hlt)⟩
      have HC := hidd (HE.out j v0 _ m1 σ1 wr c HL.out hc)
      have HCC := hidd hc
      clear hc HE H0
      cases hr : evalF f c e σ1 with
      | mk r s =>
        have HR := hidd hr
        rw [hr] at HC
        clear hr
        cases r with
        | bad q =>
          go_wp2_with fail
          refine HC.out.mono ?_
          rintro en w3 ⟨m3, k3, rfl⟩
          have HT : Hid (ToldE B rb gb m σ w (lastF (fun k => evalF f k e) ks .nil σ) (.panicked (endP q)) w3) := by
            refine ⟨m3, ?_⟩
            rw [HL.out.last, last_stop (fun k => evalF f k e) ks j c σ1 s v0 q HCC.out HR.out]
            exact ⟨HL.out.cur.trans k3, rfl⟩
          clear k3
          go_wp2_with fail
          exact ⟨rfl, HT.out⟩
        | ok v =>
          go_wp2_with fail
          refine HC.out.mono ?_
          rintro en w3 ⟨m3, k3, rfl, hv3, hc3⟩
          have hx := eval_ext f c e σ1
          rw [HR.out] at hx
          have HL3 : Hid (LS B rb gb T f e ks m σ w (j + 1) v (.iface (vT v) (vX m3 v)) m3 s w3) := ⟨HL.out.cur.trans k3, Nat.le_trans hx.1 HL.out.left, hc3.trans HL.out.calls, fun _ => ⟨rfl, hv3⟩, by rw [HL.out.last, last_step (fun k => evalF f k e) ks j c σ1 s v0 v HCC.out HR.out]⟩
          clear k3 hv3 hc3 HC hx
          go_wp2_with fail
          go_roundw
          case rel => exact ⟨j + 1, v, m3, s, hlt, by go_num, HL3.out⟩
          case measure => simp [intOf]; omega
    · obtain rfl : j = n := by omega
      obtain ⟨hx, hv⟩ := HL.out.val hpos
      subst hx
      have HT : Hid (ToldE B rb gb m σ w (lastF (fun k => evalF f k e) ks .nil σ) (.returned (.iface (vT v0) (vX m1 v0))) wr) := by
        refine ⟨m1, ?_⟩
        rw [HL.out.last, List.drop_eq_nil_of_le (by rw [← HN.out]; exact Nat.le_refl _)]
        exact ⟨HL.out.cur, rfl, hv, HL.out.calls⟩
      clear HE H0
      go_wp2_with fail
      go_ret
      exact HT.out
set_option maxRecDepth 100000 in
set_option maxHeartbeats 3200000 in
theorem chooseE (B rb gb T f : Nat) (IH : EOK B rb gb T f) (hT : T ≤ B) (m : Mm) (σ : St) (e : List Nat) (fp cb co lb lo cap g : Nat) (x y z : Cor) (w : World) (h : Env B rb gb T f e fp m σ w) (hk : Ks B g lb lo (cnt σ.rows e) [x, y, z] w) (hcap : 3 ≤ cap) (hcb : cb < B) (k11 : w.cell? ⟨cb, co + 11, none⟩ = some (.slice (some ⟨lb, lo, none⟩) 3 cap)) :
    Calls Tryd.prog 43 #[.pointer (some ⟨rb, 0, none⟩), .pointer (some ⟨cb, co, none⟩), .pointer (some ⟨fp, 0, none⟩)] w (ToldE B rb gb m σ w (bindR (evalF f x e σ) fun v σ1 => if v = .tru false then evalF f z e σ1 else evalF f y e σ1)) := by
  have H0 : Hid (Calls Tryd.prog 28 #[.pointer (some ⟨rb, 0, none⟩), .pointer (some ⟨lb, lo, none⟩), .pointer (some ⟨fp, 0, none⟩)] w (ToldE B rb gb m σ w (evalF f x e σ))) := by
    have := IH.at h hk rfl (i := 0) (c := x) rfl
    rw [Nat.zero_mul, Nat.add_zero] at this
    exact this
  have H1 : Hid (∀ i c m1 σ1 w1, [x, y, z][i]? = some c → Cur B rb gb m σ w m1 σ1 w1 → σ1.left ≤ σ.left → σ1.calls = σ.calls → Calls Tryd.prog 28 #[.pointer (some ⟨rb, 0, none⟩), .pointer (some ⟨lb, lo + i * 12, none⟩), .pointer (some ⟨fp, 0, none⟩)] w1 fun en w' => ((∃ t x, en = .returned (.iface t x)) ∨ ∃ q, en = .panicked q) ∧ ToldE B rb gb m σ w (evalF f c e σ1) en w') := fun i c m1 σ1 w1 hi k hl hc =>
    (IH.at (h.go hT k hl hc) (hk.go (k.belowB h.rel h.hs)) (h.cnt k).symm hi).mono (fun en w' ht => ⟨ht.two, ht.trans k hc⟩)
  have HK : Hid (∀ m1 σ1 w1, Cur B rb gb m σ w m1 σ1 w1 → w1.cell? ⟨cb, co + 11, none⟩ = some (.slice (some ⟨lb, lo, none⟩) 3 cap)) := fun m1 σ1 w1 k => ((k.belowB h.rel h.hs).cell (p := ⟨cb, co + 11, none⟩) hcb).trans k11
  have HX := hidd (eval_ext f x e σ)
  clear h hk IH
  cases hr : evalF f x e σ with
  | mk r s =>
    rw [hr] at H0 HX
    clear hr
    cases r with
    | bad q =>
      go_enter Tryd.func43, Tryd.ntmps43
      go_wp2_with fail
      refine H0.out.mono ?_
      rintro en w3 ⟨m3, k3, rfl⟩
      have HT : Hid (ToldE B rb gb m σ w (.bad q, s) (.panicked (endP q)) w3) := ⟨m3, k3, rfl⟩
      clear k3
      go_wp2_with fail
      exact ⟨rfl, HT.out⟩
    | ok v =>
      show Calls _ _ _ _ (ToldE B rb gb m σ w (if v = .tru false then evalF f z e s else evalF f y e s))
      by_cases hv : v = .tru false
      · rw [if_pos hv]
        go_enter Tryd.func43, Tryd.ntmps43
        go_wp2_with fail
        refine H0.out.mono ?_
        rintro en w3 ⟨m3, k3, rfl, hv3, hc3⟩
        have hq : (binOp .eql 77 (.iface (vT v) (vX m3 v)) (.iface 105 (.bool false))).run Tryd.prog w3 = .ok (.bool true) w3 := by
          have := eql_any k3.rel v (.tru false) hv3 trivial
          rw [decide_eq_true hv] at this
          exact this
        have d11 := HK.out m3 s w3 k3
        have HC := hidd (H1.out 2 z m3 s w3 rfl k3 HX.out.1 hc3)
        clear k3 hv3 hc3 H0 H1 HK hv
        go_wp2_with fail
        refine HC.out.mono ?_
        rintro en w4 ⟨h2, ht⟩
        have HT := hidd ht
        clear ht
        rcases h2 with ⟨t, x, rfl⟩ | ⟨q, rfl⟩
        · go_wp2_with fail
          go_ret
          exact HT.out
        · go_wp2_with fail
          exact ⟨rfl, HT.out⟩
      · rw [if_neg hv]
        go_enter Tryd.func43, Tryd.ntmps43
        go_wp2_with fail
        refine H0.out.mono ?_
        rintro en w3 ⟨m3, k3, rfl, hv3, hc3⟩
        have hq : (binOp .eql 77 (.iface (vT v) (vX m3 v)) (.iface 105 (.bool false))).run Tryd.prog w3 = .ok (.bool false) w3 := by
          have := eql_any k3.rel v (.tru false) hv3 trivial
          rw [decide_eq_false hv] at this
          exact this
        have d11 := HK.out m3 s w3 k3
        have HC := hidd (H1.out 1 y m3 s w3 rfl k3 HX.out.1 hc3)
        clear k3 hv3 hc3 H0 H1 HK hv
        go_wp2_with fail
        refine HC.out.mono ?_
        rintro en w4 ⟨h2, ht⟩
        have HT := hidd ht
        clear ht
        rcases h2 with ⟨t, x, rfl⟩ | ⟨q, rfl⟩
        · go_wp2_with fail
          go_ret
          exact HT.out
        · go_wp2_with fail
          exact ⟨rfl, HT.out⟩
end
end Go.Proofs.YthooljlikllnpaaDoor
