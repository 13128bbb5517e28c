/- Rows of units, grown by append. -/
import Derived.Test.YtdnbingddbakaaaDoorK38
import Derived.Test.YtdnbingddbakaaaDoorK28
import Derived.Test.YtdnbingddbakaaaDoorK09
namespace Go.Proofs.YtdnbingddbakaaaDoor
set_option linter.unusedVariables false
set_option linter.unusedSimpArgs false
open Go.RowKit

/-- An append of a whole slice, be it empty or not, to a row of one's own. -/
theorem run_row {P : Program} (w : World) (base : Nat) (t ty e : TypeId) (i : TypeInfo) (z : Value) (size bytes : Nat) (ht : P.underlying t = some (.slice e)) (hi : P.info? e = some i) (hz : i.zero = some z)
    (hsize : i.size = size) (hby : i.bytes = bytes) (hzs : z.cells.size = size) (hsz : 0 < size)
    (v : Value) (n : Nat) (xs : List Value) (hown : w.ownsRow base e size v n xs)
    (xa : Option Addr) (m c : Nat) (news : List Value) (hl : news.length = m * size) (hsrc : m = 0 ∨ ∃ b o, xa = some ⟨b, o, none⟩ ∧ ∀ j u, news[j]? = some u → w.cell? ⟨b, o + j, none⟩ = some u) (h1 : ∀ u ∈ news, u.oneCell' = true)
    (h63 : n + m ≤ maxLen) (hbytes : (n + m) * bytes ≤ 140737488355328) (hbase : base ≤ w.heap.size) :
    ∃ v' w', (Builtin.append_ #[t, t] ty #[v, .slice xa m c]).run P w = .ok v' w' ∧ w'.ownsRow base e size v' (n + m) (xs ++ news) ∧ w.grownBy w' v.ownBlock ∧ (v'.ownBlock = v.ownBlock ∨ v'.ownBlock = some w.heap.size) := by
  by_cases hm : m = 0
  · subst hm
    have hn0 : news = [] := List.length_eq_zero_iff.1 (by simpa using hl)
    subst hn0
    obtain ⟨va, vc, rfl, hvc⟩ : ∃ va vc, v = .slice va n vc ∧ n ≤ vc := by
      rcases hown.2 with ⟨rfl, rfl⟩ | ⟨g, cap, cur, rfl, hbg, hg, hnc, hcm, hcs, htake⟩
      · exact ⟨none, 0, rfl, Nat.le_refl _⟩
      · exact ⟨_, cap, rfl, hnc⟩
    have hr2 : (Builtin.append_ #[t, t] ty #[.slice va n vc, .slice xa 0 c]).run P w = .ok (.slice va n vc) w := by
      refine run_append_nothing w t t ty e i ht hi va n vc hvc (.slice xa 0 c) ?_
      cases xa with
      | none => exact Src.ofNil w ht c
      | some a => exact Src.ofSlice w ht a 0 c [] (by simp) (by simp) (by simp)
    exact ⟨_, _, hr2, by simpa using hown, ⟨rfl, rfl, rfl, Nat.le_refl _, fun _ _ _ => rfl⟩, Or.inl rfl⟩
  · rcases hsrc with h0 | ⟨b, o, rfl, hc⟩
    · exact absurd h0 hm
    · exact run_append_where (P := P) w base t ty e i z size bytes ht hi hz hsize hby hzs hsz v n xs hown ⟨b, o, none⟩ m c news hl (fun j u hu => by
        have hadd : (⟨b, o, none⟩ : Addr).add j = ⟨b, o + j, none⟩ := by unfold Addr.add; split <;> simp_all
        rw [hadd]
        exact hc j u hu) h1 (by omega) h63 hbytes hbase
theorem wpList_row {P : Program} {w : World} {ops : Array Oper} {rest : List Oper} {o : Oper} {a : Act} {Q : Exit → Act → World → Prop} (hgd : o.guard = none) (s x : Operand) (t : TypeId)
    (ho : o.op = .call { callee := .builtin .append, args := #[s, x], argTypes := #[t, t] })
    (base : Nat) (e : TypeId) (i : TypeInfo) (z : Value) (size bytes : Nat) (ht : P.underlying t = some (.slice e)) (hi : P.info? e = some i) (hz : i.zero = some z)
    (hsize : i.size = size) (hby : i.bytes = bytes) (hzs : z.cells.size = size) (hsz : 0 < size)
    (v : Value) (n : Nat) (xs : List Value) (hs : a.eval s = v) (hown : w.ownsRow base e size v n xs)
    (xa : Option Addr) (m c : Nat) (news : List Value) (hx : a.eval x = .slice xa m c) (hl : news.length = m * size) (hsrc : m = 0 ∨ ∃ b o, xa = some ⟨b, o, none⟩ ∧ ∀ j u, news[j]? = some u → w.cell? ⟨b, o + j, none⟩ = some u) (h1 : ∀ u ∈ news, u.oneCell' = true)
    (h63 : n + m ≤ maxLen) (hbytes : (n + m) * bytes ≤ 140737488355328) (hbase : base ≤ w.heap.size)
    (h : ∀ v' w', w'.ownsRow base e size v' (n + m) (xs ++ news) → w.grownBy w' v.ownBlock → (v'.ownBlock = v.ownBlock ∨ v'.ownBlock = some w.heap.size) → wpList P ops Q rest (a.put o.dst v') w') : wpList P ops Q (o :: rest) a w := by
  refine wpList_plain hgd fun _ hK => ?_
  obtain ⟨v', w', hr, h2, h3, h4⟩ := run_row (P := P) w base t o.type e i z size bytes ht hi hz hsize hby hzs hsz v n xs hown xa m c news hl hsrc h1 h63 hbytes hbase
  unfold Oper.wp execOp
  simp only [ho, resolve, invoke, builtin, Sem.run_bind, Sem.run_pure, Result.andThen_ok, List.map_toArray, List.map_cons, List.map_nil, hs, hx, hr]
  exact hK _ _ (h v' w' h2 h3 h4)
theorem flat_at {α : Type} (f : α → List Value) (n : Nat) (hf : ∀ x, (f x).length = n) {l : List α} {e : α} : ∀ (k : Nat), l[k]? = some e → ∀ (q : Nat) (u : Value), (f e)[q]? = some u → (l.flatMap f)[k * n + q]? = some u := by
  induction l with
  | nil => intro k h; simp at h
  | cons x r ih =>
    intro k h q u hq
    rw [List.flatMap_cons]
    cases k with
    | zero =>
      simp at h
      subst h
      have hlt := (List.getElem?_eq_some_iff.1 hq).1
      rw [List.getElem?_append_left (by omega), show 0 * n + q = q by omega]
      exact hq
    | succ k =>
      have := ih k (by simpa using h) q u hq
      rw [List.getElem?_append_right (by rw [hf, Nat.succ_mul]; omega), show (k + 1) * n + q - (f x).length = k * n + q by rw [hf, Nat.succ_mul]; omega]
      exact this
theorem flat_inv {α : Type} (f : α → List Value) (n : Nat) (hn : 0 < n) (hf : ∀ x, (f x).length = n) {l : List α} {j : Nat} {u : Value} (h : (l.flatMap f)[j]? = some u) : ∃ k e q, l[k]? = some e ∧ q < n ∧ j = k * n + q ∧ (f e)[q]? = some u := by
  induction l generalizing j with
  | nil => simp at h
  | cons x r ih =>
    rw [List.flatMap_cons] at h
    by_cases hj : j < n
    · rw [List.getElem?_append_left (by rw [hf]; exact hj)] at h
      exact ⟨0, x, j, rfl, hj, by omega, h⟩
    · rw [List.getElem?_append_right (by rw [hf]; omega), hf] at h
      obtain ⟨k, e, q, h1, h2, h3, h4⟩ := ih h
      exact ⟨k + 1, e, q, by simpa using h1, h2, by rw [Nat.succ_mul]; omega, h4⟩

/-- A unit, and where its procedures lie. -/
structure UE where
  nm : ByteArray
  ps : List Pro
  pa : Option Addr
  pc : Nat
def UE.un (e : UE) : Un := (e.nm, e.ps)
def UE.cells (e : UE) : List Value := [.string e.nm, .slice e.pa e.ps.length e.pc]
def flatU (es : List UE) : List Value := es.flatMap UE.cells
theorem flatU_append (a b : List UE) : flatU (a ++ b) = flatU a ++ flatU b := by simp [flatU]
theorem flatU_len : ∀ (es : List UE), (flatU es).length = es.length * 2
  | [] => rfl
  | e :: r => by rw [show flatU (e :: r) = e.cells ++ flatU r by simp [flatU], List.length_append, flatU_len r, List.length_cons]; simp [UE.cells]; omega
theorem flatU_one (es : List UE) : ∀ u ∈ flatU es, u.oneCell' = true := by
  intro u hu
  unfold flatU at hu
  obtain ⟨e, _, hu⟩ := List.mem_flatMap.1 hu
  simp [UE.cells] at hu
  rcases hu with rfl | rfl <;> rfl
def UE.Ok (B : Nat) (w : World) (e : UE) : Prop := e.ps.length ≤ e.pc ∧ e.nm.size ≤ maxLen ∧ PL B w e.pa e.ps
/-- What a slice of units has. -/
theorem UL.ents {B : Nat} {w : World} {a : Option Addr} {us : List Un} (h : UL B w a us) : ∃ es : List UE, es.map UE.un = us ∧ (∀ e ∈ es, e.Ok B w) ∧ (es.length = 0 ∨ ∃ b o, a = some ⟨b, o, none⟩ ∧ b < B ∧ ∀ j u, (flatU es)[j]? = some u → w.cell? ⟨b, o + j, none⟩ = some u) := by
  rcases h with rfl | ⟨b, o, ha, hb, h⟩
  · exact ⟨[], rfl, by simp, Or.inl rfl⟩
  · have key : ∀ i, i < us.length → ∃ e : UE, us[i]? = some e.un ∧ e.Ok B w ∧ w.cell? ⟨b, o + i * 2, none⟩ = some (.string e.nm) ∧ w.cell? ⟨b, o + i * 2 + 1, none⟩ = some (.slice e.pa e.ps.length e.pc) := by
      intro i hi
      obtain ⟨pa, pc, h0, h1, h2, h3, h4⟩ := h i us[i] (List.getElem?_eq_getElem hi)
      exact ⟨⟨us[i].1, us[i].2, pa, pc⟩, List.getElem?_eq_getElem hi, ⟨h2, h3, h4⟩, h0, h1⟩
    obtain ⟨es, hl, he⟩ := pick_list _ us.length key
    refine ⟨es, ?_, fun e hm => ?_, Or.inr ⟨b, o, ha, hb, fun j u hu => ?_⟩⟩
    · apply List.ext_getElem?
      intro i
      rw [List.getElem?_map]
      by_cases hi : i < es.length
      · rw [List.getElem?_eq_getElem hi]
        exact ((he i _ (List.getElem?_eq_getElem hi)).1).symm
      · rw [List.getElem?_eq_none (by omega), List.getElem?_eq_none (by omega)]
        rfl
    · obtain ⟨i, hi⟩ := List.mem_iff_getElem?.1 hm
      exact (he i e hi).2.1
    · obtain ⟨k, e, q, h1, h2, h3, h4⟩ := flat_inv UE.cells 2 (by decide) (fun _ => rfl) hu
      obtain ⟨_, _, h5, h6⟩ := he k e h1
      match q, h2, h4 with
      | 0, _, h4 =>
        simp [UE.cells] at h4
        rw [h3, ← h4]
        exact h5
      | 1, _, h4 =>
        simp [UE.cells] at h4
        rw [h3, ← h4, ← Nat.add_assoc]
        exact h6
theorem UE.Ok.below {B : Nat} {w w' : World} {e : UE} (h : e.Ok B w) (hw : Below B w w') : e.Ok B w' := ⟨h.1, h.2.1, h.2.2.below hw⟩
theorem UE.Ok.mono {B B' : Nat} {w : World} {e : UE} (h : e.Ok B w) (hw : B ≤ B') : e.Ok B' w := ⟨h.1, h.2.1, h.2.2.mono hw⟩
theorem UL.mono {B B' : Nat} {w : World} {a : Option Addr} {us : List Un} (h : UL B w a us) (hB : B ≤ B') : UL B' w a us := by
  rcases h with h | ⟨b, o, ha, hb, h⟩
  · exact Or.inl h
  · refine Or.inr ⟨b, o, ha, Nat.lt_of_lt_of_le hb hB, fun i u hu => ?_⟩
    obtain ⟨pa, pc, h0, h1, h2, h3, h4⟩ := h i u hu
    exact ⟨pa, pc, h0, h1, h2, h3, h4.mono hB⟩
/-- A row of units of one's own, as units in memory. -/
theorem row_ul {w : World} {base : Nat} {v : Value} {es : List UE} (h : w.ownsRow base 37 2 v es.length (flatU es)) (hok : ∀ e ∈ es, e.Ok w.heap.size w) : ∃ va vc, v = .slice va es.length vc ∧ es.length ≤ vc ∧ UL w.heap.size w va (es.map UE.un) := by
  by_cases h0 : es = []
  · obtain ⟨pa, pc, h1, h2⟩ := own_slice h
    exact ⟨pa, pc, h1, h2, Or.inl (by rw [h0]; rfl)⟩
  · obtain ⟨g, pc, h1, h2, _, h4, _, h6⟩ := own_at h (List.length_pos_iff.2 h0)
    refine ⟨_, pc, h1, h2, Or.inr ⟨g, 0, rfl, h4, fun i p hp => ?_⟩⟩
    rw [List.getElem?_map] at hp
    obtain ⟨e, he, rfl⟩ := Option.map_eq_some_iff.1 hp
    obtain ⟨k1, k2, k3⟩ := hok e (List.mem_of_getElem? he)
    refine ⟨e.pa, e.pc, ?_, ?_, k1, k2, k3⟩
    · rw [Nat.zero_add]
      exact h6 _ _ (flat_at UE.cells 2 (fun _ => rfl) i he 0 _ rfl)
    · rw [Nat.zero_add]
      exact h6 _ _ (flat_at UE.cells 2 (fun _ => rfl) i he 1 _ rfl)
theorem own_fresh (v : World) (e : TypeId) (size : Nat) : (v.alloc (.cells #[] e)).ownsRow v.heap.size e size (.slice (some ⟨v.heap.size, 0, none⟩) 0 0) 0 [] :=
  ⟨by simp, Or.inr ⟨v.heap.size, 0, #[], rfl, Nat.le_refl _, World.alloc_heap_new v _, Nat.le_refl _, Nat.zero_le _, by simp, by simp⟩⟩
theorem infoUnit : (Tryd.prog.info? 37).map (fun i => (i.zero, i.size, i.bytes)) = some (some (.agg #[.string ⟨#[]⟩, .slice none 0 0]), 2, 40) := by kernel_rfl
end Go.Proofs.YtdnbingddbakaaaDoor
