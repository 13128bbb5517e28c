/- Rows of expressions, grown by append; parts joined, plainly. -/
import Derived.Test.YthooljlikllnpaaDoorK48
import Derived.Deep.Upon
import Derived.Deep.AppendLies
import Derived.OrdersHeld
namespace Go.Proofs.YthooljlikllnpaaDoor
set_option linter.unusedVariables false
set_option linter.unusedSimpArgs false
open Go.RowKit

theorem run_append_where {P : Program} (w : World) (base : Nat) (t ty e : TypeId) (i : TypeInfo) (z : Value) (size bytes : Nat) (ht : P.underlying t = some (.slice e)) (hi : P.info? e = some i) (hz : i.zero = some z)
    (hsize : i.size = size) (hby : i.bytes = bytes) (hzs : z.cells.size = size) (hsz : 0 < size)
    (v : Value) (n : Nat) (xs : List Value) (hown : w.ownsRow base e size v n xs)
    (a : Addr) (m c : Nat) (news : List Value) (hl : news.length = m * size) (hnews : ∀ j u, news[j]? = some u → w.cell? (a.add j) = some u) (h1 : ∀ u ∈ news, u.oneCell' = true) (hm0 : 0 < m)
    (h63 : n + m ≤ maxLen) (hbytes : (n + m) * bytes ≤ 140737488355328) (hbase : base ≤ w.heap.size) :
    ∃ v' w', (Builtin.append_ #[t, t] ty #[v, .slice (some a) m c]).run P w = .ok v' w' ∧ w'.ownsRow base e size v' (n + m) (xs ++ news) ∧ w.grownBy w' v.ownBlock ∧ (v'.ownBlock = v.ownBlock ∨ v'.ownBlock = some w.heap.size) := by
  obtain ⟨v', w', hr, h2, h3, _⟩ := run_append_own (P := P) w base t ty e i z size bytes ht hi hz hsize hby hzs hsz v n xs hown a m c news hl hnews h1 h63 hbytes hbase
  refine ⟨v', w', hr, h2, h3, ?_⟩
  subst hsize
  subst hby
  have hsmall : n + m ≤ 9223372036854775807 := by simp only [maxLen] at h63; omega
  rcases hown.2 with ⟨rfl, rfl⟩ | ⟨g, cap, cur, rfl, hbg, hg, hnc, hcm, hcs, htake⟩
  · have hr2 := run_append_nil (P := P) w t ty e i z ht hi hz a m c news hl hnews hm0 (by omega) (by have hb := hbytes; simp only [Nat.zero_add] at hb; omega)
    rw [hr] at hr2
    obtain ⟨rfl, _⟩ := Result.ok.inj hr2
    exact Or.inr rfl
  · by_cases hroom : n + m ≤ cap
    · have hfit : n * i.size + news.length ≤ cur.size := by rw [hl, hcs, ← Nat.add_mul]; exact Nat.mul_le_mul_right _ hroom
      have hr2 := run_append_room (P := P) w t ty e i ht hi g n cap cur hg a m c news hl hnews h1 hroom hfit
      rw [hr] at hr2
      obtain ⟨rfl, _⟩ := Result.ok.inj hr2
      exact Or.inl rfl
    · have holds : ∀ j u, xs[j]? = some u → w.cell? ((⟨g, 0, none⟩ : Addr).add j) = some u := hown.cells (g := g) rfl
      have hr2 := run_append_grow (P := P) w t ty e i z ht hi hz ⟨g, 0, none⟩ n cap xs hown.1 holds a m c news hl hnews (by omega) (by omega) (growslice_fits (by omega) hbytes)
      rw [hr] at hr2
      obtain ⟨rfl, _⟩ := Result.ok.inj hr2
      exact Or.inr rfl
/-- An append of a whole slice, be it empty or not, to a row of one's own. -/
theorem run_row {P : Program} (w : World) (base : Nat) (t ty e : TypeId) (i : TypeInfo) (z : Value) (size bytes : Nat) (ht : P.underlying t = some (.slice e)) (hi : P.info? e = some i) (hz : i.zero = some z)
    (hsize : i.size = size) (hby : i.bytes = bytes) (hzs : z.cells.size = size) (hsz : 0 < size)
    (v : Value) (n : Nat) (xs : List Value) (hown : w.ownsRow base e size v n xs)
    (xa : Option Addr) (m c : Nat) (news : List Value) (hl : news.length = m * size) (hsrc : m = 0 ∨ ∃ b o, xa = some ⟨b, o, none⟩ ∧ ∀ j u, news[j]? = some u → w.cell? ⟨b, o + j, none⟩ = some u) (h1 : ∀ u ∈ news, u.oneCell' = true)
    (h63 : n + m ≤ maxLen) (hbytes : (n + m) * bytes ≤ 140737488355328) (hbase : base ≤ w.heap.size) :
    ∃ v' w', (Builtin.append_ #[t, t] ty #[v, .slice xa m c]).run P w = .ok v' w' ∧ w'.ownsRow base e size v' (n + m) (xs ++ news) ∧ w.grownBy w' v.ownBlock ∧ (v'.ownBlock = v.ownBlock ∨ v'.ownBlock = some w.heap.size) := by
  by_cases hm : m = 0
  · subst hm
    have hn0 : news = [] := List.length_eq_zero_iff.1 (by simpa using hl)
    subst hn0
    obtain ⟨va, vc, rfl, hvc⟩ : ∃ va vc, v = .slice va n vc ∧ n ≤ vc := by
      rcases hown.2 with ⟨rfl, rfl⟩ | ⟨g, cap, cur, rfl, hbg, hg, hnc, hcm, hcs, htake⟩
      · exact ⟨none, 0, rfl, Nat.le_refl _⟩
      · exact ⟨_, cap, rfl, hnc⟩
    have hr2 : (Builtin.append_ #[t, t] ty #[.slice va n vc, .slice xa 0 c]).run P w = .ok (.slice va n vc) w := by
      refine run_append_nothing w t t ty e i ht hi va n vc hvc (.slice xa 0 c) ?_
      cases xa with
      | none => exact Src.ofNil w ht c
      | some a => exact Src.ofSlice w ht a 0 c [] (by simp) (by simp) (by simp)
    exact ⟨_, _, hr2, by simpa using hown, ⟨rfl, rfl, rfl, Nat.le_refl _, fun _ _ _ => rfl⟩, Or.inl rfl⟩
  · rcases hsrc with h0 | ⟨b, o, rfl, hc⟩
    · exact absurd h0 hm
    · exact run_append_where (P := P) w base t ty e i z size bytes ht hi hz hsize hby hzs hsz v n xs hown ⟨b, o, none⟩ m c news hl (fun j u hu => by
        have hadd : (⟨b, o, none⟩ : Addr).add j = ⟨b, o + j, none⟩ := by unfold Addr.add; split <;> simp_all
        rw [hadd]
        exact hc j u hu) h1 (by omega) h63 hbytes hbase
theorem own_at {w : World} {base size n : Nat} {e : TypeId} {v : Value} {xs : List Value} (h : w.ownsRow base e size v n xs) (hn : 0 < n) : ∃ g vc, v = .slice (some ⟨g, 0, none⟩) n vc ∧ n ≤ vc ∧ base ≤ g ∧ g < w.heap.size ∧ v.ownBlock = some g ∧ ∀ j u, xs[j]? = some u → w.cell? ⟨g, j, none⟩ = some u := by
  rcases h.2 with ⟨rfl, rfl⟩ | ⟨g, cap, cur, rfl, hbg, hg, hnc, hcm, hcs, htake⟩
  · omega
  · refine ⟨g, cap, rfl, hnc, hbg, (Array.getElem?_eq_some_iff.1 hg).1, rfl, fun j u hu => ?_⟩
    have hadd : (⟨g, 0, none⟩ : Addr).add j = ⟨g, j, none⟩ := by unfold Addr.add; split <;> simp_all
    have := h.cells (g := g) rfl j u hu
    rwa [hadd] at this

/-- An expression, and where what hangs on it lies. -/
structure CE where
  c : Cor
  qa : Option Addr
  qc : Nat
  ka : Option Addr
  kc : Nat
def CE.cells (e : CE) : List Value := [.int .i64 e.c.kind, .int .i64 e.c.index, .int .i64 e.c.n, .string e.c.lib, .string e.c.own, .int .i64 e.c.quote.kind, .int .i64 e.c.quote.n, .string e.c.quote.name, .int .i64 e.c.quote.stamp, .int .i64 e.c.quote.lib, .slice e.qa e.c.quote.kids.length e.qc, .slice e.ka e.c.kids.length e.kc]
def flatC (es : List CE) : List Value := es.flatMap CE.cells
theorem flatC_cons (e : CE) (r : List CE) : flatC (e :: r) = e.cells ++ flatC r := by simp [flatC]
theorem flatC_append (a b : List CE) : flatC (a ++ b) = flatC a ++ flatC b := by simp [flatC]
theorem CE.len (e : CE) : e.cells.length = 12 := rfl
theorem flatC_len : ∀ (es : List CE), (flatC es).length = es.length * 12
  | [] => rfl
  | e :: r => by rw [flatC_cons, List.length_append, e.len, flatC_len r, List.length_cons]; omega
theorem flatC_one (es : List CE) : ∀ u ∈ flatC es, u.oneCell' = true := by
  intro u hu
  unfold flatC at hu
  obtain ⟨e, _, hu⟩ := List.mem_flatMap.1 hu
  simp [CE.cells] at hu
  rcases hu with rfl | rfl | rfl | rfl | rfl | rfl | rfl | rfl | rfl | rfl | rfl | rfl <;> rfl
theorem flat_at {α : Type} (f : α → List Value) (n : Nat) (hf : ∀ x, (f x).length = n) {l : List α} {e : α} : ∀ (k : Nat), l[k]? = some e → ∀ (q : Nat) (u : Value), (f e)[q]? = some u → (l.flatMap f)[k * n + q]? = some u := by
  induction l with
  | nil => intro k h; simp at h
  | cons x r ih =>
    intro k h q u hq
    rw [List.flatMap_cons]
    cases k with
    | zero =>
      simp at h
      subst h
      have hlt := (List.getElem?_eq_some_iff.1 hq).1
      rw [List.getElem?_append_left (by omega), show 0 * n + q = q by omega]
      exact hq
    | succ k =>
      have := ih k (by simpa using h) q u hq
      rw [List.getElem?_append_right (by rw [hf, Nat.succ_mul]; omega), show (k + 1) * n + q - (f x).length = k * n + q by rw [hf, Nat.succ_mul]; omega]
      exact this
theorem flat_inv {α : Type} (f : α → List Value) (n : Nat) (hn : 0 < n) (hf : ∀ x, (f x).length = n) {l : List α} {j : Nat} {u : Value} (h : (l.flatMap f)[j]? = some u) : ∃ k e q, l[k]? = some e ∧ q < n ∧ j = k * n + q ∧ (f e)[q]? = some u := by
  induction l generalizing j with
  | nil => simp at h
  | cons x r ih =>
    rw [List.flatMap_cons] at h
    by_cases hj : j < n
    · rw [List.getElem?_append_left (by rw [hf]; exact hj)] at h
      exact ⟨0, x, j, rfl, hj, by omega, h⟩
    · rw [List.getElem?_append_right (by rw [hf]; omega), hf] at h
      obtain ⟨k, e, q, h1, h2, h3, h4⟩ := ih h
      exact ⟨k + 1, e, q, by simpa using h1, h2, by rw [Nat.succ_mul]; omega, h4⟩
def CE.Ok (B F : Nat) (w : World) (e : CE) : Prop := NcOk e.c e.qc e.kc ∧ Dc (fun k => k < B) w F e.qa e.c.quote.kids ∧ Cc B w F e.ka e.c.kids
theorem CE.Ok.stay {B F : Nat} {w w' : World} {e : CE} (h : e.Ok B F w) (hw : ∀ k, k < B → w'.heap[k]? = w.heap[k]?) : e.Ok B F w' := ⟨h.1, Dc.stay (fun k hk => hw k hk) (fun _ hk => hk) _ _ _ h.2.1, Cc.stay hw _ _ _ h.2.2⟩
theorem Cc.wide {B B' : Nat} {w : World} (hB : B ≤ B') : ∀ (f : Nat) (a : Option Addr) (cs : List Cor), Cc B w f a cs → Cc B' w f a cs
  | 0, _, _, h => h
  | f + 1, a, cs, h => by
    obtain ⟨hl, h⟩ := h
    refine ⟨hl, ?_⟩
    rcases h with h | ⟨b, o, ha, hb, h⟩
    · exact Or.inl h
    · refine Or.inr ⟨b, o, ha, Nat.lt_of_lt_of_le hb hB, fun i c hc => ?_⟩
      obtain ⟨qa, qc, ka, kc, h1, h2, h3, h4⟩ := h i c hc
      exact ⟨qa, qc, ka, kc, h1, h2, Dc.stay (fun _ _ => rfl) (fun _ hk => Nat.lt_of_lt_of_le hk hB) _ _ _ h3, Cc.wide hB f ka _ h4⟩
theorem CE.Ok.wide {B B' F : Nat} {w : World} {e : CE} (h : e.Ok B F w) (hB : B ≤ B') : e.Ok B' F w := ⟨h.1, Dc.stay (fun _ _ => rfl) (fun _ hk => Nat.lt_of_lt_of_le hk hB) _ _ _ h.2.1, Cc.wide hB _ _ _ h.2.2⟩
theorem CcMore {B : Nat} {w : World} : ∀ (f : Nat) (a : Option Addr) (cs : List Cor), Cc B w f a cs → Cc B w (f + 1) a cs
  | 0, a, cs, h => by
    rw [show cs = [] from h]
    exact ⟨Nat.zero_le _, Or.inl rfl⟩
  | f + 1, a, cs, h => by
    obtain ⟨hl, h⟩ := h
    refine ⟨hl, ?_⟩
    rcases h with h | ⟨b, o, ha, hb, h⟩
    · exact Or.inl h
    · refine Or.inr ⟨b, o, ha, hb, fun i c hc => ?_⟩
      obtain ⟨qa, qc, ka, kc, h1, h2, h3, h4⟩ := h i c hc
      exact ⟨qa, qc, ka, kc, h1, h2, Dc.more _ _ _ h3, CcMore f ka _ h4⟩
theorem CcUpto {B : Nat} {w : World} {f : Nat} {a : Option Addr} {cs : List Cor} (h : Cc B w f a cs) : ∀ (k : Nat), Cc B w (f + k) a cs
  | 0 => h
  | k + 1 => CcMore _ _ _ (CcUpto h k)
theorem CE.Ok.upto {B F : Nat} {w : World} {e : CE} (h : e.Ok B F w) (k : Nat) : e.Ok B (F + k) w := ⟨h.1, Dc.upto h.2.1 k, CcUpto h.2.2 k⟩
/-- What a slice of expressions has. -/
theorem Cc.ents {B : Nat} {w : World} {f : Nat} {a : Option Addr} {cs : List Cor} (h : Cc B w f a cs) : ∃ es : List CE, es.map CE.c = cs ∧ (∀ e ∈ es, e.Ok B f w) ∧ (es.length = 0 ∨ ∃ b o, a = some ⟨b, o, none⟩ ∧ b < B ∧ ∀ j u, (flatC es)[j]? = some u → w.cell? ⟨b, o + j, none⟩ = some u) := by
  by_cases h0 : cs = []
  · subst h0; exact ⟨[], rfl, by simp, Or.inl rfl⟩
  · obtain ⟨g, b, o, rfl, rfl, hall⟩ := h.at h0
    have key : ∀ i, i < cs.length → ∃ e : CE, cs[i]? = some e.c ∧ e.Ok B g w ∧ Nc w b (o + i * 12) e.c e.qa e.qc e.ka e.kc ∧ b < B := by
      intro i hi
      obtain ⟨hb, qa, qc, ka, kc, h1, h2, h3, h4⟩ := hall i cs[i] (List.getElem?_eq_getElem hi)
      exact ⟨⟨cs[i], qa, qc, ka, kc⟩, List.getElem?_eq_getElem hi, ⟨h2, h3, h4⟩, h1, hb⟩
    have pick : ∀ (n : Nat), n ≤ cs.length → ∃ es : List CE, es.length = n ∧ ∀ i e, es[i]? = some e → cs[i]? = some e.c ∧ e.Ok B g w ∧ Nc w b (o + i * 12) e.c e.qa e.qc e.ka e.kc ∧ b < B := by
      intro n
      induction n with
      | zero => exact fun _ => ⟨[], rfl, by simp⟩
      | succ n ih =>
        intro hn
        obtain ⟨es, hl, he⟩ := ih (by omega)
        obtain ⟨x, hx⟩ := key n (by omega)
        refine ⟨es ++ [x], by simp [hl], fun i e hi => ?_⟩
        by_cases hin : i < n
        · rw [List.getElem?_append_left (by omega)] at hi
          exact he i e hi
        · have hlen := (List.getElem?_eq_some_iff.1 hi).1
          simp at hlen
          obtain rfl : i = n := by omega
          rw [List.getElem?_append_right (by omega)] at hi
          simp [hl] at hi
          subst hi
          exact hx
    obtain ⟨es, hl, he⟩ := pick cs.length (Nat.le_refl _)
    have hpos := List.length_pos_iff.2 h0
    have hb : b < B := (hall 0 (cs[0]'hpos) (List.getElem?_eq_getElem hpos)).1
    refine ⟨es, ?_, ?_, Or.inr ⟨b, o, rfl, hb, ?_⟩⟩
    · apply List.ext_getElem?
      intro i
      rw [List.getElem?_map]
      cases hi : es[i]? with
      | none => rw [List.getElem?_eq_none_iff] at hi; rw [List.getElem?_eq_none_iff.2 (by omega)]; rfl
      | some e => rw [(he i e hi).1]; rfl
    · intro e hm
      obtain ⟨i, hi⟩ := List.getElem?_of_mem hm
      have := (he i e hi).2.1.upto 1
      exact this
    · intro j u hu
      obtain ⟨k, e, q, h1, h2, rfl, h4⟩ := flat_inv CE.cells 12 (by decide) CE.len hu
      obtain ⟨_, _, nc, _⟩ := he k e h1
      rw [← Nat.add_assoc]
      obtain ⟨c0, c1, c2, c3, c4, c5, c6, c7, c8, c9, c10, c11⟩ := nc
      match q, h2, h4 with
      | 0, _, h4 => simp [CE.cells] at h4; rw [← h4]; exact c0
      | 1, _, h4 => simp [CE.cells] at h4; rw [← h4]; exact c1
      | 2, _, h4 => simp [CE.cells] at h4; rw [← h4]; exact c2
      | 3, _, h4 => simp [CE.cells] at h4; rw [← h4]; exact c3
      | 4, _, h4 => simp [CE.cells] at h4; rw [← h4]; exact c4
      | 5, _, h4 => simp [CE.cells] at h4; rw [← h4]; exact c5
      | 6, _, h4 => simp [CE.cells] at h4; rw [← h4]; exact c6
      | 7, _, h4 => simp [CE.cells] at h4; rw [← h4]; exact c7
      | 8, _, h4 => simp [CE.cells] at h4; rw [← h4]; exact c8
      | 9, _, h4 => simp [CE.cells] at h4; rw [← h4]; exact c9
      | 10, _, h4 => simp [CE.cells] at h4; rw [← h4]; exact c10
      | 11, _, h4 => simp [CE.cells] at h4; rw [← h4]; exact c11
/-- A row of expressions that hang on what lies elsewhere. -/
theorem Cc.of_row {B B' F : Nat} {w : World} {v : Value} {es : List CE} (h : w.ownsRow B 45 12 v es.length (flatC es)) (hok : ∀ e ∈ es, e.Ok B' F w) (hB : B' ≤ w.heap.size) (hl : es.length ≤ 9223372036854775807) : ∃ a c, v = .slice a (es.map CE.c).length c ∧ (es.map CE.c).length ≤ c ∧ Cc w.heap.size w (F + 1) a (es.map CE.c) := by
  by_cases h0 : es = []
  · subst h0
    obtain ⟨va, vc, rfl, hvc⟩ := own_slice h
    exact ⟨va, vc, rfl, hvc, Nat.zero_le _, Or.inl rfl⟩
  · obtain ⟨g, vc, rfl, hvc, _, hg, _, hc⟩ := own_at h (List.length_pos_iff.2 h0)
    refine ⟨_, vc, by rw [List.length_map], by rw [List.length_map]; exact hvc, by rw [List.length_map]; exact hl, Or.inr ⟨g, 0, rfl, hg, fun i c hi => ?_⟩⟩
    rw [List.getElem?_map] at hi
    obtain ⟨e, he, rfl⟩ := Option.map_eq_some_iff.1 hi
    have ok := (hok e (List.mem_of_getElem? he)).wide hB
    have cc : ∀ q u, e.cells[q]? = some u → w.cell? ⟨g, 0 + i * 12 + q, none⟩ = some u := fun q u hq => by
      rw [Nat.zero_add]
      exact hc _ _ (flat_at CE.cells 12 CE.len i he q u hq)
    exact ⟨e.qa, e.qc, e.ka, e.kc, ⟨cc 0 _ rfl, cc 1 _ rfl, cc 2 _ rfl, cc 3 _ rfl, cc 4 _ rfl, cc 5 _ rfl, cc 6 _ rfl, cc 7 _ rfl, cc 8 _ rfl, cc 9 _ rfl, cc 10 _ rfl, cc 11 _ rfl⟩, ok.1, ok.2.1, ok.2.2⟩

theorem step_row {ops : Array Oper} {o : Oper} {a : Act} {w : World} {K : Act → World → Prop} {Q : Exit → Act → World → Prop} {E : Prop} (hgd : o.guard = none) (s x : Operand) (t : TypeId)
    (ho : o.op = .call { callee := .builtin .append, args := #[s, x], argTypes := #[t, t] })
    (base : Nat) (e : TypeId) (i : TypeInfo) (z : Value) (size bytes : Nat) (ht : Tryd.prog.underlying t = some (.slice e)) (hi : Tryd.prog.info? e = some i) (hz : i.zero = some z)
    (hsize : i.size = size) (hby : i.bytes = bytes) (hzs : z.cells.size = size) (hsz : 0 < size)
    (v : Value) (n : Nat) (xs : List Value) (hs : a.eval s = v) (hown : w.ownsRow base e size v n xs)
    (xa : Option Addr) (m c : Nat) (news : List Value) (hx : a.eval x = .slice xa m c) (hl : news.length = m * size) (hsrc : m = 0 ∨ ∃ b o, xa = some ⟨b, o, none⟩ ∧ ∀ j u, news[j]? = some u → w.cell? ⟨b, o + j, none⟩ = some u) (h1 : ∀ u ∈ news, u.oneCell' = true)
    (h63 : n + m ≤ maxLen) (hbytes : (n + m) * bytes ≤ 140737488355328) (hbase : base ≤ w.heap.size)
    (h : ∀ v' w', w'.ownsRow base e size v' (n + m) (xs ++ news) → w.grownBy w' v.ownBlock → (v'.ownBlock = v.ownBlock ∨ v'.ownBlock = some w.heap.size) → K (a.put o.dst v') w') :
    if Region.wanted o (yielded ops a.tmps) = true then Oper.wp Tryd.prog o a w K Q else E := by
  have hw : Region.wanted o (yielded ops a.tmps) = true := by simp [Region.wanted, hgd]
  rw [if_pos hw]
  obtain ⟨v', w', hr, h2, h3, h4⟩ := run_row (P := Tryd.prog) w base t o.type e i z size bytes ht hi hz hsize hby hzs hsz v n xs hown xa m c news hl hsrc h1 h63 hbytes hbase
  unfold Oper.wp execOp
  simp only [ho, resolve, invoke, builtin, Sem.run_bind, Sem.run_pure, Result.andThen_ok, List.map_toArray, List.map_cons, List.map_nil, hs, hx, hr]
  exact h v' w' h2 h3 h4
theorem own_fresh (v : World) (e : TypeId) (size : Nat) : (v.alloc (.cells #[] e)).ownsRow v.heap.size e size (.slice (some ⟨v.heap.size, 0, none⟩) 0 0) 0 [] :=
  ⟨by simp, Or.inr ⟨v.heap.size, 0, #[], rfl, Nat.le_refl _, World.alloc_heap_new v _, Nat.le_refl _, Nat.zero_le _, by simp, by simp⟩⟩
theorem ckB_app : ∀ (a b : List Cor), ckB (a ++ b) = if ckB a = 0 then ckB b else ckB a
  | [], b => by simp [ckB]
  | c :: r, b => by
    rw [List.cons_append, ckB, ckB]
    by_cases e : (ckC 300 0 c 0).1 = 0
    · rw [if_pos e, if_pos e, ckB_app r b]
    · rw [if_neg e, if_neg e, if_neg e]
theorem wz_joined : ∀ (ps : List (ByteArray × List Cor)) (i : Nat), (∀ p ∈ ps, p.2.length ≤ 200) → (wrongZ ps i).1 = ckB (bodies ps)
  | [], i, _ => rfl
  | p :: r, i, h => by
    have hb : wrongB p.2 = ckB p.2 := by unfold wrongB; rw [if_neg (by have := h p (by simp); omega)]
    show (wrongZ (p :: r) i).1 = ckB (p.2 ++ bodies r)
    rw [wrongZ, hb, ckB_app]
    by_cases e : ckB p.2 = 0
    · rw [if_pos e, if_pos e, wz_joined r (i + 1) (fun q hq => h q (by simp [hq]))]
    · rw [if_neg e, if_neg e]
theorem bodies_one (nm : ByteArray) (b : List Cor) : bodies [(nm, b)] = b := by simp [bodies]
theorem bodies_le : ∀ (ps : List (ByteArray × List Cor)), ∀ p ∈ ps, p.2.length ≤ (bodies ps).length
  | [], p, hp => by simp at hp
  | q :: r, p, hp => by
    show p.2.length ≤ (q.2 ++ bodies r).length
    rw [List.length_append]
    rcases List.mem_cons.1 hp with rfl | hp
    · omega
    · have := bodies_le r p hp
      omega
/-- WHERE A PART ENDS IS NO MATTER. -/
theorem model_parts (ps : List (ByteArray × List Cor)) (nm : ByteArray) (steps : Int) (h1 : ps.length ≤ 40) (h2 : (bodies ps).length ≤ 200) : (modelR [(nm, bodies ps)] steps).1 = (modelR ps steps).1 ∧ (modelR [(nm, bodies ps)] steps).2.1 = (modelR ps steps).2.1 := by
  have e1 : (wrongP ps).1 = ckB (bodies ps) := by
    unfold wrongP
    rw [if_neg (by omega), wz_joined ps 0 (fun p hp => Nat.le_trans (bodies_le ps p hp) h2)]
  have e2 : (wrongP [(nm, bodies ps)]).1 = ckB (bodies ps) := by
    unfold wrongP
    rw [if_neg (by simp), wz_joined _ 0 (fun p hp => by simp at hp; subst hp; exact h2), bodies_one]
  unfold modelR
  rw [bodies_one]
  by_cases z : ckB (bodies ps) = 0
  · rw [if_pos (e2.trans z), if_pos (e1.trans z)]
    by_cases q : steps < 0 ∨ 1000000 < steps
    · rw [if_pos q]; exact ⟨rfl, rfl⟩
    · rw [if_neg q]; exact ⟨rfl, rfl⟩
  · rw [if_neg (by rw [e2]; exact z), if_neg (by rw [e1]; exact z)]
    exact ⟨rfl, e2.trans e1.symm⟩
end Go.Proofs.YthooljlikllnpaaDoor
