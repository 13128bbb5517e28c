/- Rows of units, grown by append. Chapter 10, the document's side: what globals there are, in memory. Chapter 10, the document's side: the image being made, in memory. -/
import Derived.Test.YtdnbingddbakaaaDoorK08
import Derived.Test.YtdnbingddbakaaaDoorK29
import Derived.Test.YtdnbingddbakaaaDoorK34
import Derived.Test.YtdnbingddbakaaaDoorK38
import Derived.Test.YtdnbingddbakaaaDoorK41
namespace Go.Proofs.YtdnbingddbakaaaDoor
section
set_option linter.unusedVariables false
set_option linter.unusedSimpArgs false
open Go.RowKit

/-- An append of a whole slice, be it empty or not, to a row of one's own. -/
theorem run_row {P : Program} (w : World) (base : Nat) (t ty e : TypeId) (i : TypeInfo) (z : Value) (size bytes : Nat) (ht : P.underlying t = some (.slice e)) (hi : P.info? e = some i) (hz : i.zero = some z)
    (hsize : i.size = size) (hby : i.bytes = bytes) (hzs : z.cells.size = size) (hsz : 0 < size)
    (v : Value) (n : Nat) (xs : List Value) (hown : w.ownsRow base e size v n xs)
    (xa : Option Addr) (m c : Nat) (news : List Value) (hl : news.length = m * size) (hsrc : m = 0 ∨ ∃ b o, xa = some ⟨b, o, none⟩ ∧ ∀ j u, news[j]? = some u → w.cell? ⟨b, o + j, none⟩ = some u) (h1 : ∀ u ∈ news, u.oneCell' = true)
    (h63 : n + m ≤ maxLen) (hbytes : (n + m) * bytes ≤ 140737488355328) (hbase : base ≤ w.heap.size) :
    ∃ v' w', (Builtin.append_ #[t, t] ty #[v, .slice xa m c]).run P w = .ok v' w' ∧ w'.ownsRow base e size v' (n + m) (xs ++ news) ∧ w.grownBy w' v.ownBlock ∧ (v'.ownBlock = v.ownBlock ∨ v'.ownBlock = some w.heap.size) := by
  by_cases hm : m = 0
  · subst hm
    have hn0 : news = [] := List.length_eq_zero_iff.1 (by simpa using hl)
    subst hn0
    obtain ⟨va, vc, rfl, hvc⟩ : ∃ va vc, v = .slice va n vc ∧ n ≤ vc := by
      rcases hown.2 with ⟨rfl, rfl⟩ | ⟨g, cap, cur, rfl, hbg, hg, hnc, hcm, hcs, htake⟩
      · exact ⟨none, 0, rfl, Nat.le_refl _⟩
      · exact ⟨_, cap, rfl, hnc⟩
    have hr2 : (Builtin.append_ #[t, t] ty #[.slice va n vc, .slice xa 0 c]).run P w = .ok (.slice va n vc) w := by
      refine run_append_nothing w t t ty e i ht hi va n vc hvc (.slice xa 0 c) ?_
      cases xa with
      | none => exact Src.ofNil w ht c
      | some a => exact Src.ofSlice w ht a 0 c [] (by simp) (by simp) (by simp)
    exact ⟨_, _, hr2, by simpa using hown, ⟨rfl, rfl, rfl, Nat.le_refl _, fun _ _ _ => rfl⟩, Or.inl rfl⟩
  · rcases hsrc with h0 | ⟨b, o, rfl, hc⟩
    · exact absurd h0 hm
    · exact run_append_where (P := P) w base t ty e i z size bytes ht hi hz hsize hby hzs hsz v n xs hown ⟨b, o, none⟩ m c news hl (fun j u hu => by
        have hadd : (⟨b, o, none⟩ : Addr).add j = ⟨b, o + j, none⟩ := by unfold Addr.add; split <;> simp_all
        rw [hadd]
        exact hc j u hu) h1 (by omega) h63 hbytes hbase
theorem wpList_row {P : Program} {w : World} {ops : Array Oper} {rest : List Oper} {o : Oper} {a : Act} {Q : Exit → Act → World → Prop} (hgd : o.guard = none) (s x : Operand) (t : TypeId)
    (ho : o.op = .call { callee := .builtin .append, args := #[s, x], argTypes := #[t, t] })
    (base : Nat) (e : TypeId) (i : TypeInfo) (z : Value) (size bytes : Nat) (ht : P.underlying t = some (.slice e)) (hi : P.info? e = some i) (hz : i.zero = some z)
    (hsize : i.size = size) (hby : i.bytes = bytes) (hzs : z.cells.size = size) (hsz : 0 < size)
    (v : Value) (n : Nat) (xs : List Value) (hs : a.eval s = v) (hown : w.ownsRow base e size v n xs)
    (xa : Option Addr) (m c : Nat) (news : List Value) (hx : a.eval x = .slice xa m c) (hl : news.length = m * size) (hsrc : m = 0 ∨ ∃ b o, xa = some ⟨b, o, none⟩ ∧ ∀ j u, news[j]? = some u → w.cell? ⟨b, o + j, none⟩ = some u) (h1 : ∀ u ∈ news, u.oneCell' = true)
    (h63 : n + m ≤ maxLen) (hbytes : (n + m) * bytes ≤ 140737488355328) (hbase : base ≤ w.heap.size)
    (h : ∀ v' w', w'.ownsRow base e size v' (n + m) (xs ++ news) → w.grownBy w' v.ownBlock → (v'.ownBlock = v.ownBlock ∨ v'.ownBlock = some w.heap.size) → wpList P ops Q rest (a.put o.dst v') w') : wpList P ops Q (o :: rest) a w := by
  refine wpList_plain hgd fun _ hK => ?_
  obtain ⟨v', w', hr, h2, h3, h4⟩ := run_row (P := P) w base t o.type e i z size bytes ht hi hz hsize hby hzs hsz v n xs hown xa m c news hl hsrc h1 h63 hbytes hbase
  unfold Oper.wp execOp
  simp only [ho, resolve, invoke, builtin, Sem.run_bind, Sem.run_pure, Result.andThen_ok, List.map_toArray, List.map_cons, List.map_nil, hs, hx, hr]
  exact hK _ _ (h v' w' h2 h3 h4)
theorem flat_at {α : Type} (f : α → List Value) (n : Nat) (hf : ∀ x, (f x).length = n) {l : List α} {e : α} : ∀ (k : Nat), l[k]? = some e → ∀ (q : Nat) (u : Value), (f e)[q]? = some u → (l.flatMap f)[k * n + q]? = some u := by
  induction l with
  | nil => intro k h; simp at h
  | cons x r ih =>
    intro k h q u hq
    rw [List.flatMap_cons]
    cases k with
    | zero =>
      simp at h
      subst h
      have hlt := (List.getElem?_eq_some_iff.1 hq).1
      rw [List.getElem?_append_left (by omega), show 0 * n + q = q by omega]
      exact hq
    | succ k =>
      have := ih k (by simpa using h) q u hq
      rw [List.getElem?_append_right (by rw [hf, Nat.succ_mul]; omega), show (k + 1) * n + q - (f x).length = k * n + q by rw [hf, Nat.succ_mul]; omega]
      exact this
theorem flat_inv {α : Type} (f : α → List Value) (n : Nat) (hn : 0 < n) (hf : ∀ x, (f x).length = n) {l : List α} {j : Nat} {u : Value} (h : (l.flatMap f)[j]? = some u) : ∃ k e q, l[k]? = some e ∧ q < n ∧ j = k * n + q ∧ (f e)[q]? = some u := by
  induction l generalizing j with
  | nil => simp at h
  | cons x r ih =>
    rw [List.flatMap_cons] at h
    by_cases hj : j < n
    · rw [List.getElem?_append_left (by rw [hf]; exact hj)] at h
      exact ⟨0, x, j, rfl, hj, by omega, h⟩
    · rw [List.getElem?_append_right (by rw [hf]; omega), hf] at h
      obtain ⟨k, e, q, h1, h2, h3, h4⟩ := ih h
      exact ⟨k + 1, e, q, by simpa using h1, h2, by rw [Nat.succ_mul]; omega, h4⟩

/-- A unit, and where its procedures lie. -/
structure UE where
  nm : ByteArray
  ps : List Pro
  pa : Option Addr
  pc : Nat
def UE.un (e : UE) : Un := (e.nm, e.ps)
def UE.cells (e : UE) : List Value := [.string e.nm, .slice e.pa e.ps.length e.pc]
def flatU (es : List UE) : List Value := es.flatMap UE.cells
theorem flatU_append (a b : List UE) : flatU (a ++ b) = flatU a ++ flatU b := by simp [flatU]
theorem flatU_len : ∀ (es : List UE), (flatU es).length = es.length * 2
  | [] => rfl
  | e :: r => by rw [show flatU (e :: r) = e.cells ++ flatU r by simp [flatU], List.length_append, flatU_len r, List.length_cons]; simp [UE.cells]; omega
theorem flatU_one (es : List UE) : ∀ u ∈ flatU es, u.oneCell' = true := by
  intro u hu
  unfold flatU at hu
  obtain ⟨e, _, hu⟩ := List.mem_flatMap.1 hu
  simp [UE.cells] at hu
  rcases hu with rfl | rfl <;> rfl
def UE.Ok (B : Nat) (w : World) (e : UE) : Prop := e.ps.length ≤ e.pc ∧ e.nm.size ≤ maxLen ∧ PL B w e.pa e.ps
/-- What a slice of units has. -/
theorem UL.ents {B : Nat} {w : World} {a : Option Addr} {us : List Un} (h : UL B w a us) : ∃ es : List UE, es.map UE.un = us ∧ (∀ e ∈ es, e.Ok B w) ∧ (es.length = 0 ∨ ∃ b o, a = some ⟨b, o, none⟩ ∧ b < B ∧ ∀ j u, (flatU es)[j]? = some u → w.cell? ⟨b, o + j, none⟩ = some u) := by
  rcases h with rfl | ⟨b, o, ha, hb, h⟩
  · exact ⟨[], rfl, by simp, Or.inl rfl⟩
  · have key : ∀ i, i < us.length → ∃ e : UE, us[i]? = some e.un ∧ e.Ok B w ∧ w.cell? ⟨b, o + i * 2, none⟩ = some (.string e.nm) ∧ w.cell? ⟨b, o + i * 2 + 1, none⟩ = some (.slice e.pa e.ps.length e.pc) := by
      intro i hi
      obtain ⟨pa, pc, h0, h1, h2, h3, h4⟩ := h i us[i] (List.getElem?_eq_getElem hi)
      exact ⟨⟨us[i].1, us[i].2, pa, pc⟩, List.getElem?_eq_getElem hi, ⟨h2, h3, h4⟩, h0, h1⟩
    obtain ⟨es, hl, he⟩ := pick_list _ us.length key
    refine ⟨es, ?_, fun e hm => ?_, Or.inr ⟨b, o, ha, hb, fun j u hu => ?_⟩⟩
    · apply List.ext_getElem?
      intro i
      rw [List.getElem?_map]
      by_cases hi : i < es.length
      · rw [List.getElem?_eq_getElem hi]
        exact ((he i _ (List.getElem?_eq_getElem hi)).1).symm
      · rw [List.getElem?_eq_none (by omega), List.getElem?_eq_none (by omega)]
        rfl
    · obtain ⟨i, hi⟩ := List.mem_iff_getElem?.1 hm
      exact (he i e hi).2.1
    · obtain ⟨k, e, q, h1, h2, h3, h4⟩ := flat_inv UE.cells 2 (by decide) (fun _ => rfl) hu
      obtain ⟨_, _, h5, h6⟩ := he k e h1
      match q, h2, h4 with
      | 0, _, h4 =>
        simp [UE.cells] at h4
        rw [h3, ← h4]
        exact h5
      | 1, _, h4 =>
        simp [UE.cells] at h4
        rw [h3, ← h4, ← Nat.add_assoc]
        exact h6
theorem UE.Ok.below {B : Nat} {w w' : World} {e : UE} (h : e.Ok B w) (hw : Below B w w') : e.Ok B w' := ⟨h.1, h.2.1, h.2.2.below hw⟩
theorem UE.Ok.mono {B B' : Nat} {w : World} {e : UE} (h : e.Ok B w) (hw : B ≤ B') : e.Ok B' w := ⟨h.1, h.2.1, h.2.2.mono hw⟩
theorem UL.mono {B B' : Nat} {w : World} {a : Option Addr} {us : List Un} (h : UL B w a us) (hB : B ≤ B') : UL B' w a us := by
  rcases h with h | ⟨b, o, ha, hb, h⟩
  · exact Or.inl h
  · refine Or.inr ⟨b, o, ha, Nat.lt_of_lt_of_le hb hB, fun i u hu => ?_⟩
    obtain ⟨pa, pc, h0, h1, h2, h3, h4⟩ := h i u hu
    exact ⟨pa, pc, h0, h1, h2, h3, h4.mono hB⟩
/-- A row of units of one's own, as units in memory. -/
theorem row_ul {w : World} {base : Nat} {v : Value} {es : List UE} (h : w.ownsRow base 37 2 v es.length (flatU es)) (hok : ∀ e ∈ es, e.Ok w.heap.size w) : ∃ va vc, v = .slice va es.length vc ∧ es.length ≤ vc ∧ UL w.heap.size w va (es.map UE.un) := by
  by_cases h0 : es = []
  · obtain ⟨pa, pc, h1, h2⟩ := own_slice h
    exact ⟨pa, pc, h1, h2, Or.inl (by rw [h0]; rfl)⟩
  · obtain ⟨g, pc, h1, h2, _, h4, _, h6⟩ := own_at h (List.length_pos_iff.2 h0)
    refine ⟨_, pc, h1, h2, Or.inr ⟨g, 0, rfl, h4, fun i p hp => ?_⟩⟩
    rw [List.getElem?_map] at hp
    obtain ⟨e, he, rfl⟩ := Option.map_eq_some_iff.1 hp
    obtain ⟨k1, k2, k3⟩ := hok e (List.mem_of_getElem? he)
    refine ⟨e.pa, e.pc, ?_, ?_, k1, k2, k3⟩
    · rw [Nat.zero_add]
      exact h6 _ _ (flat_at UE.cells 2 (fun _ => rfl) i he 0 _ rfl)
    · rw [Nat.zero_add]
      exact h6 _ _ (flat_at UE.cells 2 (fun _ => rfl) i he 1 _ rfl)
theorem own_fresh (v : World) (e : TypeId) (size : Nat) : (v.alloc (.cells #[] e)).ownsRow v.heap.size e size (.slice (some ⟨v.heap.size, 0, none⟩) 0 0) 0 [] :=
  ⟨by simp, Or.inr ⟨v.heap.size, 0, #[], rfl, Nat.le_refl _, World.alloc_heap_new v _, Nat.le_refl _, Nat.zero_le _, by simp, by simp⟩⟩
theorem infoUnit : (Tryd.prog.info? 37).map (fun i => (i.zero, i.size, i.bytes)) = some (some (.agg #[.string ⟨#[]⟩, .slice none 0 0]), 2, 40) := by kernel_rfl
end
section
set_option linter.unusedVariables false
set_option linter.unusedSimpArgs false
open Go.RowKit Go.Maps Go.WideMaps

/-- Block b is a map of at most n globals: their numbers (the document's). -/
def MapN (b n : Nat) (g : Gl → Option Nat) (w : World) : Prop :=
  ∃ D : DataW Unit, w.ownsMap Tryd.prog 40 (plainElem Tryd.prog 3) b n D ∧ Maps.IsMap D ∧
    ∀ (s : Gl) (l : Lit), keyOf Tryd.prog 40 (bval s) = some l → Maps.has D l = (g s).isSome ∧ D.atKey l (.lit (.int .i64 0)) = .lit (.int .i64 (((g s).getD 0 : Nat) : Int))
theorem MapN.made (w : World) : MapN w.heap.size 0 (fun _ => none) (w.alloc (.map #[] 0)) :=
  ⟨.map [], World.ownsMap_made _ _ _ _, Maps.isMap_empty, fun s l _ => ⟨rfl, rfl⟩⟩
theorem MapN.lt {b n : Nat} {g : Gl → Option Nat} {w : World} (h : MapN b n g w) : b < w.heap.size := by
  obtain ⟨D, h, _⟩ := h
  exact h.lt
theorem MapN.kept {b n : Nat} {g : Gl → Option Nat} {w w' : World} (h : MapN b n g w) (hw : w'.heap[b]? = w.heap[b]?) : MapN b n g w' := by
  obtain ⟨D, ⟨es, clock, hb, F, hs, hD⟩, h2, h3⟩ := h
  exact ⟨D, ⟨es, clock, hw.trans hb, F, hs, hD⟩, h2, h3⟩
theorem MapN.congr {b n : Nat} {g g' : Gl → Option Nat} {w : World} (h : MapN b n g w) (e : ∀ s, g' s = g s) : MapN b n g' w := by
  obtain rfl : g' = g := funext e
  exact h
theorem MapN.look {b n : Nat} {g : Gl → Option Nat} {w : World} (h : MapN b n g w) (s : Gl) (hs : smG s) : (Instr.lookup 59 (.map (some b)) (.agg #[.string ⟨#[]⟩, .string s.1, .string s.2]) true).run Tryd.prog w = .ok (.tuple #[.int .i64 (((g s).getD 0 : Nat) : Int), .bool (g s).isSome]) w := by
  obtain ⟨l, hl⟩ := keyB s hs
  obtain ⟨D, h1, h2, h3⟩ := h
  obtain ⟨v, ps, hrun, hv⟩ := h1.look_ok lawB Tryd.underlying59 (zeroI w) (plainElem_int Tryd.underlying3 (WalkArith.wf_i64 (by omega))) hl
  rw [(h3 s l hl).1] at hrun
  rw [(h3 s l hl).2] at hv
  obtain ⟨c, hc⟩ := plainElem_int_inv Tryd.underlying3 hv
  rw [show (Value.agg #[.string ⟨#[]⟩, .string s.1, .string s.2]) = bval s from rfl, hrun]
  simp at hc
  rw [hc.1, ← hc.2.1.1]
theorem MapN.put {b n : Nat} {g : Gl → Option Nat} {w : World} (h : MapN b n g w) (hn : n < maxLen) (s : Gl) (hs : smG s) (i : Nat) (hi : i ≤ 9223372036854775807) :
    ∃ w', (Instr.mapUpdate 59 (.map (some b)) (.agg #[.string ⟨#[]⟩, .string s.1, .string s.2]) (.int .i64 (i : Int))).run Tryd.prog w = .ok () w' ∧ MapN b (n + 1) (fun t => if t = s then some i else g t) w' ∧ w.grownBy w' (some b) := by
  obtain ⟨l, hl⟩ := keyB s hs
  obtain ⟨D, h1, h2, h3⟩ := h
  have hpe := plainElem_int (H := Unit) (P := Tryd.prog) Tryd.underlying3 (a := (i : Int)) (q := .i64) (WalkArith.wf_i64 (by omega))
  obtain ⟨w', hrun, hown, hg⟩ := h1.store lawB Tryd.underlying59 hn hl hpe
  refine ⟨w', hrun, ⟨_, hown, h2.put _ _, fun t lt ht => ?_⟩, hg.grown⟩
  have hkl : WideAt.IsKeyLit l := lawB.key hl
  by_cases e : t = s
  · subst e
    obtain rfl := Option.some.inj (hl.symm.trans ht)
    rw [has_put_same h2 hkl, atKey_put_same h2 hkl]
    simp
  · have hne : lt ≠ l := fun h => e (by
      subst h
      have := lawB.inj ht hl
      simp [bval] at this
      exact Prod.ext this.1 this.2)
    rw [has_put_other hne, atKey_put_other hne, (h3 t lt ht).1, (h3 t lt ht).2]
    simp [e]
/-- THE DOCUMENT'S LINK, where globals are numbered: results, the image, the numbers. -/
structure LS (w : World) (gs ms : List Gl) (bv : Value) (W : World) : Prop where
  r2 : W.heap[w.heap.size]? = some (.cells #[.slice none 0 0, .slice none 0 0, .slice none 0 0] 27 (0, 0))
  r3 : W.heap[w.heap.size + 1]? = some (.cells #[.int .i64 0, .int .i64 0] 30 (0, 0))
  im : W.heap[w.heap.size + 2]? = some (.cells #[bv, .slice none 0 0, .slice none 0 0] 27 (0, 0))
  mp : MapN (w.heap.size + 3) ms.length (idxG ms) W
  row : W.ownsRow (w.heap.size + 4) 40 3 bv gs.length (gs.flatMap bcells)
  bl : Below w.heap.size w W
theorem LS.on {w : World} {gs ms bv} {W W' : World} (h : LS w gs ms bv W) (hb : Below W.heap.size W W') : LS w gs ms bv W' :=
  ⟨(hb.block _ (Array.getElem?_eq_some_iff.1 h.r2).1).trans h.r2, (hb.block _ (Array.getElem?_eq_some_iff.1 h.r3).1).trans h.r3, (hb.block _ (Array.getElem?_eq_some_iff.1 h.im).1).trans h.im, h.mp.kept (hb.block _ h.mp.lt), own_belowS h.row hb, h.bl.trans (hb.mono h.bl.size)⟩
theorem LS.ge {w : World} {gs ms bv} {W : World} (h : LS w gs ms bv W) : w.heap.size + 4 ≤ W.heap.size := h.mp.lt
/-- A global becomes known. -/
theorem LS.put {w : World} {gs bv} {W : World} (h : LS w gs gs bv W) (hn : gs.length ≤ 1000000000) (s : Gl) (hs : smG s) (hi : idxG gs s = none) :
    ∃ W1, (Instr.mapUpdate 59 (.map (some (w.heap.size + 3))) (.agg #[.string ⟨#[]⟩, .string s.1, .string s.2]) (.int .i64 (gs.length : Int))).run Tryd.prog W = .ok () W1 ∧ LS w gs (gs ++ [s]) bv W1 ∧ W.grownBy W1 (some (w.heap.size + 3)) := by
  obtain ⟨W1, r1, m1, g1⟩ := h.mp.put (by unfold maxLen; omega) s hs gs.length (by omega)
  have kp : ∀ b, b < W.heap.size → b ≠ w.heap.size + 3 → W1.heap[b]? = W.heap[b]? := fun b hb hn => g1.block b hb (by simpa using hn)
  refine ⟨W1, r1, ⟨(kp _ (Array.getElem?_eq_some_iff.1 h.r2).1 (by omega)).trans h.r2, (kp _ (Array.getElem?_eq_some_iff.1 h.r3).1 (by omega)).trans h.r3, (kp _ (Array.getElem?_eq_some_iff.1 h.im).1 (by omega)).trans h.im, ?_, ?_, ?_⟩, g1⟩
  · rw [List.length_append]
    exact m1.congr (fun t => by
      rw [idxG_app]
      by_cases e : t = s
      · subst e; simp [hi]
      · simp only [if_neg e]
        cases idxG gs t <;> rfl)
  · exact own_stay h.row (fun g hg => kp g (h.row.lt g hg).2 (by have := (h.row.lt g hg).1; omega))
  · exact h.bl.trans ((Below.refl w.heap.size W).grown g1 h.bl.size (fun k hk => by simp at hk; omega))
/-- It gets its place. -/
theorem LS.push {w : World} {gs ms bv} {W W4 : World} {bv' : Value} (h : LS w gs ms bv W) (s : Gl) (hown : W4.ownsRow (w.heap.size + 4) 40 3 bv' (gs.length + 1) (gs.flatMap bcells ++ bcells s)) (hg : (W.alloc (.cells #[.string ⟨#[]⟩, .string s.1, .string s.2] 40)).grownBy W4 bv.ownBlock) (hw : bv'.ownBlock = bv.ownBlock ∨ bv'.ownBlock = some (W.heap.size + 1)) :
    LS w (gs ++ [s]) ms bv' (W4.setCell ⟨w.heap.size + 2, 0, none⟩ bv') ∧ W4.heap[w.heap.size + 2]? = some (.cells #[bv, .slice none 0 0, .slice none 0 0] 27 (0, 0)) ∧ ∀ b, b < W.heap.size → b ≠ w.heap.size + 2 → bv.ownBlock ≠ some b → (W4.setCell ⟨w.heap.size + 2, 0, none⟩ bv').heap[b]? = W.heap[b]? := by
  have ba := (Below.refl W.heap.size W).alloc (Nat.le_refl _) (.cells #[.string ⟨#[]⟩, .string s.1, .string s.2] 40)
  have h1 := h.on ba
  have hsz : (W.alloc (.cells #[.string ⟨#[]⟩, .string s.1, .string s.2] 40)).heap.size = W.heap.size + 1 := by simp
  have oth : ∀ b, b ≠ w.heap.size + 2 → (W4.setCell ⟨w.heap.size + 2, 0, none⟩ bv').heap[b]? = W4.heap[b]? := fun b hb => Below.heap_setCell _ _ _ _ hb
  have lo : ∀ b, b < w.heap.size + 4 → bv.ownBlock ≠ some b := fun b hb e => by have := (h.row.lt b e).1; omega
  have hge := h.ge
  have kp : ∀ b, b < W.heap.size → bv.ownBlock ≠ some b → W4.heap[b]? = W.heap[b]? := fun b hb hn => (hg.block b (by omega) (fun e => hn e.symm)).trans (ba.block b hb)
  have him : W4.heap[w.heap.size + 2]? = some (.cells #[bv, .slice none 0 0, .slice none 0 0] 27 (0, 0)) := (kp _ (by omega) (lo _ (by omega))).trans h.im
  refine ⟨⟨(oth _ (by omega)).trans ((kp _ (by omega) (lo _ (by omega))).trans h.r2), (oth _ (by omega)).trans ((kp _ (by omega) (lo _ (by omega))).trans h.r3), ?_, h.mp.kept ((oth _ (by omega)).trans (kp _ (by omega) (lo _ (by omega)))), ?_, ?_⟩, him, fun b hb h2 h3 => (oth b h2).trans (kp b hb h3)⟩
  · have h2 := heap_setCell_same W4 (w.heap.size + 2) 0 _ 27 bv' him
    rw [h2]; rfl
  · rw [List.length_append, List.flatMap_append]
    have e : [s].flatMap bcells = bcells s := by simp
    rw [e]
    exact own_stay hown (fun g hg' => oth g (fun e => by
      rcases hw with hw | hw
      · rw [hw] at hg'; exact lo g (by omega) hg'
      · rw [hw] at hg'; have := Option.some.inj hg'; omega))
  · have b4 : Below w.heap.size w W4 := h1.bl.trans ((Below.refl w.heap.size _).grown hg h1.bl.size (fun k hk => by have := (h.row.lt k hk).1; omega))
    exact b4.setCell (p := ⟨w.heap.size + 2, 0, none⟩) (by show w.heap.size ≤ w.heap.size + 2; omega) _
theorem LS.start {w : World} : LS w [] [] (.slice none 0 0) ((((w.alloc (.cells #[.slice none 0 0, .slice none 0 0, .slice none 0 0] 27)).alloc (.cells #[.int .i64 0, .int .i64 0] 30)).alloc (.cells #[.slice none 0 0, .slice none 0 0, .slice none 0 0] 27)).alloc (.map #[] 0)) := by
  have s1 : (w.alloc (.cells #[.slice none 0 0, .slice none 0 0, .slice none 0 0] 27)).heap.size = w.heap.size + 1 := by simp
  have s2 : ((w.alloc (.cells #[.slice none 0 0, .slice none 0 0, .slice none 0 0] 27)).alloc (.cells #[.int .i64 0, .int .i64 0] 30)).heap.size = w.heap.size + 2 := by simp
  have s3 : (((w.alloc (.cells #[.slice none 0 0, .slice none 0 0, .slice none 0 0] 27)).alloc (.cells #[.int .i64 0, .int .i64 0] 30)).alloc (.cells #[.slice none 0 0, .slice none 0 0, .slice none 0 0] 27)).heap.size = w.heap.size + 3 := by simp
  have a1 := World.alloc_heap_new w (.cells #[.slice none 0 0, .slice none 0 0, .slice none 0 0] 27)
  have a2 := World.alloc_heap_new (w.alloc (.cells #[.slice none 0 0, .slice none 0 0, .slice none 0 0] 27)) (.cells #[.int .i64 0, .int .i64 0] 30)
  have a3 := World.alloc_heap_new ((w.alloc (.cells #[.slice none 0 0, .slice none 0 0, .slice none 0 0] 27)).alloc (.cells #[.int .i64 0, .int .i64 0] 30)) (.cells #[.slice none 0 0, .slice none 0 0, .slice none 0 0] 27)
  have a4 := MapN.made (((w.alloc (.cells #[.slice none 0 0, .slice none 0 0, .slice none 0 0] 27)).alloc (.cells #[.int .i64 0, .int .i64 0] 30)).alloc (.cells #[.slice none 0 0, .slice none 0 0, .slice none 0 0] 27))
  rw [s1] at a2
  rw [s2] at a3
  rw [s3] at a4
  refine ⟨?_, ?_, ?_, a4.congr (fun s => rfl), ⟨by simp, Or.inl ⟨rfl, rfl⟩⟩, ?_⟩
  · rw [Below.heap_alloc _ _ _ (by rw [s3]; omega), Below.heap_alloc _ _ _ (by rw [s2]; omega), Below.heap_alloc _ _ _ (by rw [s1]; omega)]
    exact a1
  · rw [Below.heap_alloc _ _ _ (by rw [s3]; omega), Below.heap_alloc _ _ _ (by rw [s2]; omega)]
    exact a2
  · rw [Below.heap_alloc _ _ _ (by rw [s3]; omega)]
    exact a3
  · exact ((((Below.refl w.heap.size w).alloc (Nat.le_refl _) _).alloc (by rw [s1]; omega) _).alloc (by rw [s2]; omega) _).alloc (by rw [s3]; omega) _
theorem ret16 {ts : Array Value} {W : World} {N2 N3 : Nat} {x0 x1 x2 f0 f1 : Value} (h2 : W.heap[N2]? = some (.cells #[x0, x1, x2] 27 (0, 0))) (h3 : W.heap[N3]? = some (.cells #[f0, f1] 30 (0, 0))) (e2 : ts[4]? = some (.pointer (some ⟨N2, 0, none⟩))) (e3 : ts[5]? = some (.pointer (some ⟨N3, 0, none⟩))) :
    (results Tryd.f16 ts).run Tryd.prog W = .ok (.tuple #[.agg #[x0, x1, x2], .agg #[f0, f1]]) W := by
  have cc : ∀ q, W.cell? ⟨N2, q, none⟩ = #[x0, x1, x2][q]? := fun q => by simp [World.cell?, h2]
  have dd : ∀ q, W.cell? ⟨N3, q, none⟩ = #[f0, f1][q]? := fun q => by simp [World.cell?, h3]
  have q0 := cc 0
  have q1 := cc 1
  have q2 := cc 2
  have p0 := dd 0
  have p1 := dd 1
  simp at q0 q1 q2 p0 p1
  simp [results, Tryd.results16, go_sem, e2, e3, q0, q1, q2, p0, p1]
theorem ret8 {ts : Array Value} {W : World} {N2 N3 : Nat} {x0 x1 x2 f0 f1 : Value} (h2 : W.heap[N2]? = some (.cells #[x0, x1, x2] 27 (0, 0))) (h3 : W.heap[N3]? = some (.cells #[f0, f1] 30 (0, 0))) (e2 : ts[2]? = some (.pointer (some ⟨N2, 0, none⟩))) (e3 : ts[3]? = some (.pointer (some ⟨N3, 0, none⟩))) :
    (results Tryd.f8 ts).run Tryd.prog W = .ok (.tuple #[.agg #[x0, x1, x2], .agg #[f0, f1]]) W := by
  have cc : ∀ q, W.cell? ⟨N2, q, none⟩ = #[x0, x1, x2][q]? := fun q => by simp [World.cell?, h2]
  have dd : ∀ q, W.cell? ⟨N3, q, none⟩ = #[f0, f1][q]? := fun q => by simp [World.cell?, h3]
  have q0 := cc 0
  have q1 := cc 1
  have q2 := cc 2
  have p0 := dd 0
  have p1 := dd 1
  simp at q0 q1 q2 p0 p1
  simp [results, Tryd.results8, go_sem, e2, e3, q0, q1, q2, p0, p1]
set_option maxRecDepth 100000 in
set_option maxHeartbeats 1600000 in
theorem bad16_any (e at0 : Int) (w : World) : Calls Tryd.prog 16 #[.int .i64 e, .int .i64 at0] w fun r w' => r = .returned (.tuple #[.agg #[.slice none 0 0, .slice none 0 0, .slice none 0 0], .agg #[.int .i64 e, .int .i64 at0]]) ∧ Below w.heap.size w w' := by
  have s1 : (w.alloc (.cells #[.slice none 0 0, .slice none 0 0, .slice none 0 0] 27)).heap.size = w.heap.size + 1 := by simp
  have a1 := World.alloc_heap_new w (.cells #[.slice none 0 0, .slice none 0 0, .slice none 0 0] 27)
  have a2 := World.alloc_heap_new (w.alloc (.cells #[.slice none 0 0, .slice none 0 0, .slice none 0 0] 27)) (.cells #[.int .i64 0, .int .i64 0] 30)
  rw [s1] at a2
  have L1 : Hid (((w.alloc (.cells #[.slice none 0 0, .slice none 0 0, .slice none 0 0] 27)).alloc (.cells #[.int .i64 0, .int .i64 0] 30)).heap[w.heap.size]? = some (.cells #[.slice none 0 0, .slice none 0 0, .slice none 0 0] 27 (0, 0))) := by
    show ((w.alloc (.cells #[.slice none 0 0, .slice none 0 0, .slice none 0 0] 27)).alloc (.cells #[.int .i64 0, .int .i64 0] 30)).heap[w.heap.size]? = some (.cells #[.slice none 0 0, .slice none 0 0, .slice none 0 0] 27 (0, 0))
    rw [Below.heap_alloc _ _ _ (by rw [s1]; omega)]
    exact a1
  have L2 := hidd a2
  have BB := hidd (((Below.refl w.heap.size w).alloc (Nat.le_refl _) (.cells #[.slice none 0 0, .slice none 0 0, .slice none 0 0] 27)).alloc (by rw [s1]; omega) (.cells #[.int .i64 0, .int .i64 0] 30))
  clear a1 a2 s1
  go_enter Tryd.func16, Tryd.ntmps16
  go_upto_region 1 with fail
  generalize (w.alloc (.cells #[.slice none 0 0, .slice none 0 0, .slice none 0 0] 27)).alloc (.cells #[.int .i64 0, .int .i64 0] 30) = V at L1 L2 BB ⊢
  obtain ⟨N, hN⟩ : ∃ N, N = w.heap.size := ⟨_, rfl⟩
  have HNN := hidd hN
  rw [← hN] at L1 L2 ⊢
  clear hN
  have FA := hidd (fin5_at (W := V) (by omega) L1.out L2.out (.slice none 0 0) (.slice none 0 0) (.slice none 0 0) (.int .i64 e) (.int .i64 at0))
  have FB := hidd (fin5_below BB.out (N2 := N) (N3 := N + 1) (by rw [HNN.out]; exact Nat.le_refl _) (by rw [HNN.out]; omega) (.slice none 0 0) (.slice none 0 0) (.slice none 0 0) (.int .i64 e) (.int .i64 at0))
  have k20 : V.cell? ⟨N, 0, none⟩ = some (.slice none 0 0) := (cellO L1.out).trans rfl
  have k21 : V.cell? ⟨N, 1, none⟩ = some (.slice none 0 0) := (cellO L1.out).trans rfl
  have k22 : V.cell? ⟨N, 2, none⟩ = some (.slice none 0 0) := (cellO L1.out).trans rfl
  have k30 : V.cell? ⟨N + 1, 0, none⟩ = some (.int .i64 0) := (cellO L2.out).trans rfl
  have k31 : V.cell? ⟨N + 1, 1, none⟩ = some (.int .i64 0) := (cellO L2.out).trans rfl
  have kz2 : ∀ q, V.frozen? ⟨N, q, none⟩ = false := fun q => looseO L1.out
  have kz3 : ∀ q, V.frozen? ⟨N + 1, q, none⟩ = false := fun q => looseO L2.out
  go_wp2_with fail
  exact bodyPost_ret (ret16 FA.out.1 FA.out.2.1 rfl rfl) rfl ⟨rfl, FB.out⟩
end
section
set_option linter.unusedVariables false
set_option linter.unusedSimpArgs false
open Go.RowKit

/-- THE DOCUMENT'S LINK, where procedures are put together. -/
structure L2 (w : World) (gs : List Gl) (bv pv sv : Value) (ps : List PE) (ss : List Int) (W : World) : Prop where
  im : IM w.heap.size (w.heap.size + 2) bv pv sv ps ss W
  r2 : W.heap[w.heap.size]? = some (.cells #[.slice none 0 0, .slice none 0 0, .slice none 0 0] 27 (0, 0))
  r3 : W.heap[w.heap.size + 1]? = some (.cells #[.int .i64 0, .int .i64 0] 30 (0, 0))
  mp : MapN (w.heap.size + 3) gs.length (idxG gs) W
  row : W.ownsRow (w.heap.size + 4) 40 3 bv gs.length (gs.flatMap bcells)
  bl : Below w.heap.size w W
theorem L2.on {w gs bv pv sv ps ss} {W W' : World} (h : L2 w gs bv pv sv ps ss W) (hb : Below W.heap.size W W') : L2 w gs bv pv sv ps ss W' :=
  ⟨h.im.below hb, (hb.block _ (Array.getElem?_eq_some_iff.1 h.r2).1).trans h.r2, (hb.block _ (Array.getElem?_eq_some_iff.1 h.r3).1).trans h.r3, h.mp.kept (hb.block _ h.mp.lt), own_belowS h.row hb, h.bl.trans (hb.mono h.bl.size)⟩
theorem L2.start {w gs bv} {W : World} (h : LS w gs gs bv W) : L2 w gs bv (.slice none 0 0) (.slice none 0 0) [] [] W :=
  ⟨⟨h.im, by omega, ⟨by simp [flatP], Or.inl ⟨rfl, rfl⟩⟩, ⟨by simp [ints], Or.inl ⟨rfl, rfl⟩⟩, by simp [Value.ownBlock], by simp [Value.ownBlock], by simp [Value.ownBlock], by simp⟩, h.r2, h.r3, h.mp, h.row, h.bl⟩
/-- A block of cells of another kind is no row's block. -/
theorem L2.not_og {w gs bv pv sv ps ss} {W : World} (h : L2 w gs bv pv sv ps ss W) {b : Nat} {cs : Array Value} {t : TypeId} (hb : W.heap[b]? = some (.cells cs t (0, 0))) (hn : b ≠ w.heap.size + 2) (h1 : t ≠ 46) (h2 : t ≠ 3) : ¬ OG (w.heap.size + 2) pv sv b := fun e => by
  rcases e with e | e | e
  · exact hn e
  · exact own_ne h.im.pr e.symm hb h1 rfl
  · exact own_ne h.im.sr e.symm hb h2 rfl
theorem own_cells {w : World} {B size n : Nat} {e : TypeId} {v : Value} {xs : List Value} (h : w.ownsRow B e size v n xs) {g : Nat} (hg : v.ownBlock = some g) : ∃ cs, w.heap[g]? = some (.cells cs e (0, 0)) := by
  rcases h.2 with ⟨rfl, rfl⟩ | ⟨g', cap, cur, rfl, hbg, hg', _⟩
  · simp [Value.ownBlock] at hg
  · simp [Value.ownBlock] at hg
    subst hg
    exact ⟨_, hg'⟩
theorem L2.map_og {w gs bv pv sv ps ss} {W : World} (h : L2 w gs bv pv sv ps ss W) : ¬ OG (w.heap.size + 2) pv sv (w.heap.size + 3) := fun e => by
  obtain ⟨D, ⟨es, cl, hb, _⟩, _⟩ := h.mp
  rcases e with e | e | e
  · omega
  · obtain ⟨cs, hc⟩ := own_cells h.im.pr e.symm
    rw [hb] at hc; cases hc
  · obtain ⟨cs, hc⟩ := own_cells h.im.sr e.symm
    rw [hb] at hc; cases hc
theorem L2.row_og {w gs bv pv sv ps ss} {W : World} (h : L2 w gs bv pv sv ps ss W) {g : Nat} (hg : bv.ownBlock = some g) : ¬ OG (w.heap.size + 2) pv sv g := by
  obtain ⟨cs, hc⟩ := own_cells h.row hg
  exact h.not_og hc (by have := (h.row.lt g hg).1; omega) (by decide) (by decide)
/-- What keeps all but the image's own blocks. -/
theorem L2.frame {w gs bv pv sv ps ss pv' sv' ps' ss'} {W W' : World} (h : L2 w gs bv pv sv ps ss W) (him : IM w.heap.size (w.heap.size + 2) bv pv' sv' ps' ss' W') (hf : Fm (OG (w.heap.size + 2) pv sv) (OG (w.heap.size + 2) pv' sv') w.heap.size W W') : L2 w gs bv pv' sv' ps' ss' W' :=
  ⟨him, (hf.keep _ (Array.getElem?_eq_some_iff.1 h.r2).1 (h.not_og h.r2 (by omega) (by decide) (by decide))).trans h.r2, (hf.keep _ (Array.getElem?_eq_some_iff.1 h.r3).1 (h.not_og h.r3 (by omega) (by decide) (by decide))).trans h.r3,
    h.mp.kept (hf.keep _ h.mp.lt h.map_og), own_stay h.row (fun g hg => hf.keep g (h.row.lt g hg).2 (h.row_og hg)), h.bl.trans hf.low⟩
/-- A procedure being made: box Q, its code a row of one's own. -/
structure AQ (Q : Nat) (ar : Int) (v : Value) (es : List IE) (w : World) : Prop where
  box : w.heap[Q]? = some (.cells #[.int .i64 ar, v] 46 (0, 0))
  row : w.ownsRow Q 51 11 v es.length (flatI es)
  sep : v.ownBlock ≠ some Q
  ok : ∀ e ∈ es, e.Ok (fun b => Q < b ∧ b < w.heap.size ∧ v.ownBlock ≠ some b) w
theorem AQ.lt {Q ar v es} {w : World} (h : AQ Q ar v es w) : Q < w.heap.size := (Array.getElem?_eq_some_iff.1 h.box).1
theorem AQ.below {Q ar v es} {w w' : World} (h : AQ Q ar v es w) (hb : Below w.heap.size w w') : AQ Q ar v es w' :=
  ⟨(hb.block _ h.lt).trans h.box, own_belowS h.row hb, h.sep, fun e he => (h.ok e he).stay (fun k hk => hb.block k hk.2.1) (fun _ hk => ⟨hk.1, Nat.lt_of_lt_of_le hk.2.1 hb.size, hk.2.2⟩)⟩
theorem AQ.start (W : World) (ar : Int) : AQ W.heap.size ar (.slice none 0 0) [] (W.alloc (.cells #[.int .i64 ar, .slice none 0 0] 46)) :=
  ⟨World.alloc_heap_new W _, ⟨by simp [flatI], Or.inl ⟨rfl, rfl⟩⟩, by simp [Value.ownBlock], by simp⟩
theorem AQ.push {Q ar v v' es} {w2 w4 : World} (h : AQ Q ar v es w2) (e : IE) (he : e.Ok (fun b => Q < b ∧ b < w2.heap.size ∧ v.ownBlock ≠ some b) w2)
    (hown : w4.ownsRow Q 51 11 v' (es.length + 1) (flatI es ++ e.cells)) (hg : w2.grownBy w4 v.ownBlock) (hw : v'.ownBlock = v.ownBlock ∨ v'.ownBlock = some w2.heap.size) :
    AQ Q ar v' (es ++ [e]) (w4.setCell ⟨Q, 1, none⟩ v') ∧ Below Q w2 (w4.setCell ⟨Q, 1, none⟩ v') ∧ w4.heap[Q]? = some (.cells #[.int .i64 ar, v] 46 (0, 0)) := by
  have hlt := h.lt
  have hs4 := hg.size
  have hke : Keep Q w4 (w4.setCell ⟨Q, 1, none⟩ v') := (Keep.refl _ _).setCell _ rfl _
  have hne : v'.ownBlock ≠ some Q := by
    rcases hw with e | e
    · rw [e]; exact h.sep
    · rw [e]; intro e2; have := Option.some.inj e2; omega
  have h5 : w4.heap[Q]? = some (.cells #[.int .i64 ar, v] 46 (0, 0)) := (hg.block Q hlt (fun e => h.sep e.symm)).trans h.box
  have hsz : w2.heap.size ≤ (w4.setCell ⟨Q, 1, none⟩ v').heap.size := Nat.le_trans hs4 (by simp [World.setCell])
  have hbq : Below Q w2 (w4.setCell ⟨Q, 1, none⟩ v') := ((Below.refl Q w2).grown hg (by omega) (fun k hk => (h.row.lt k hk).1)).trans (hke.toBelow (Nat.le_refl _) (by omega))
  refine ⟨⟨?_, ?_, hne, fun f hf => ?_⟩, hbq, h5⟩
  · have h6 := heap_setCell_same w4 Q 1 #[.int .i64 ar, v] 46 v' h5
    rw [h6]; rfl
  · have e1 : flatI (es ++ [e]) = flatI es ++ e.cells := by simp [flatI]
    rw [e1, List.length_append]
    exact hown.kept hke (Or.inr (by simpa using hne))
  · have h1 : f.Ok (fun b => Q < b ∧ b < w2.heap.size ∧ v.ownBlock ≠ some b) w2 := by
      rcases List.mem_append.1 hf with hf | hf
      · exact h.ok f hf
      · simp at hf
        subst hf
        exact he
    refine h1.stay (fun k hk => ?_) (fun k hk => ⟨hk.1, Nat.lt_of_lt_of_le hk.2.1 hsz, ?_⟩)
    · exact (Below.heap_setCell _ _ _ _ (Nat.ne_of_gt hk.1)).trans (hg.block k hk.2.1 (fun e => hk.2.2 e.symm))
    · rcases hw with e | e
      · rw [e]; exact hk.2.2
      · rw [e]; intro e2; have := Option.some.inj e2; omega
theorem AQ.pe {Q ar es} {a : Option Addr} {c : Nat} {w : World} (h : AQ Q ar (.slice a es.length c) es w) {ok : Nat → Prop} (h1 : ∀ b, Q < b → b < w.heap.size → ok b) : (PE.mk ar es a c).Ok ok w := by
  refine ⟨?_, ?_, fun e he => (h.ok e he).stay (fun _ _ => rfl) (fun b hb => h1 b hb.1 hb.2.1)⟩
  · obtain ⟨va, vc, e, hvc⟩ := own_slice h.row
    simp at e
    show es.length ≤ c
    rw [e.2]; exact hvc
  · by_cases h0 : es = []
    · exact Or.inl h0
    · obtain ⟨g, vc, e, hvc, hQg, hg, ho, hc⟩ := own_at h.row (List.length_pos_iff.2 h0)
      simp at e
      refine Or.inr ⟨g, e.1, h1 g ?_ hg, hc⟩
      have : g ≠ Q := fun e2 => h.sep (by rw [ho, e2])
      omega
/-- The procedure made may stand in the image. -/
theorem L2.fits {w gs bv pv sv ps ss} {W0 W : World} {ar es} {a : Option Addr} {c : Nat} (h : L2 w gs bv pv sv ps ss W0) (hq : AQ W0.heap.size ar (.slice a es.length c) es W) : (PE.mk ar es a c).Ok (fun b => w.heap.size + 2 < b ∧ b < W.heap.size ∧ ¬ OG (w.heap.size + 2) pv sv b) W :=
  hq.pe (fun b h1 h2 => ⟨by have := h.im.lt; omega, h2, fun e => by have := (h.im.oglt e).2; omega⟩)
end
end Go.Proofs.YtdnbingddbakaaaDoor
