/- Chapter 3: A LIBRARY THAT IS BEING READ, in memory. Chapter 3: what the parser has grows; add. -/
import Derived.Test.YtonafbennobgdaaGreatDoorK16
namespace Go.Proofs.YtonafbennobgdaaGreatDoor
section
set_option linter.unusedVariables false
set_option linter.unusedSimpArgs false
open Go.RowKit

def Fre (B pb : Nat) (ev iv bv : Value) (w : World) (k : Nat) : Prop := (B ≤ k ∧ k ≠ pb + 2) ∧ k < w.heap.size ∧ k ≠ pb ∧ some k ≠ ev.ownBlock ∧ some k ≠ iv.ownBlock ∧ some k ≠ bv.ownBlock
def flatE (l : List (ByteArray × ByteArray)) : List Value := l.flatMap fun p => [.string p.1, .string p.2]
structure IE where
  s : Se
  nv : Value
  av : Value
  kv : Value
def IE.cells (e : IE) : List Value := match e.s with
  | .mk k nm _ _ p _ => [.int .i64 k, .string nm, e.nv, e.av, .string p, e.kv]
def IE.ok (ok : Nat → Prop) (w : World) (e : IE) : Prop := match e.s with
  | .mk _ _ ns as_ _ ks => SV ok ns e.nv w ∧ SV ok as_ e.av w ∧ SeL ok w ks e.kv
def flatI (l : List IE) : List Value := l.flatMap IE.cells
structure PSx (B pb : Nat) (f1 f2 f3 : Value) (nm : ByteArray) (ex : List (ByteArray × ByteArray)) (is : List IE) (es : List (Dat × Option Addr × Nat)) (ev iv bv : Value) (w : World) : Prop where
  hB : B ≤ pb
  rl : pb + 2 < w.heap.size
  blk : w.heap[pb]? = some (.cells #[f1, f2, f3, .string nm, ev, iv, bv] 57 (0, 0))
  eo : w.ownsRow B 70 2 ev ex.length (flatE ex)
  io : w.ownsRow B 73 6 iv is.length (flatI is)
  bo : w.ownsRow B 26 6 bv es.length (flat es)
  ik : ∀ e ∈ is, e.ok (Fre B pb ev iv bv w) w
  bk : ∀ e ∈ es, e.1.name.size ≤ maxLen ∧ e.1.kids.length ≤ e.2.2 ∧ ∃ f, Dc (Fre B pb ev iv bv w) w f e.2.1 e.1.kids
def PS (B pb : Nat) (f1 f2 f3 : Value) (s : LibS) (w : World) : Prop := ∃ is es ev iv bv, PSx B pb f1 f2 f3 s.name s.exports is es ev iv bv w ∧ is.map IE.s = s.imports ∧ es.map (·.1) = s.body
theorem IE.stay {ok ok' : Nat → Prop} {w w' : World} {e : IE} (h : e.ok ok w) (hw : ∀ k, ok k → w'.heap[k]? = w.heap[k]?) (ho : ∀ k, ok k → ok' k) : e.ok ok' w' := by
  obtain ⟨s, nv, av, kv⟩ := e
  cases s with
  | mk k nm ns as_ p ks =>
    obtain ⟨h1, h2, h3⟩ := h
    exact ⟨h1.stay hw ho, h2.stay hw ho, h3.stay hw ho⟩
theorem PSx.below {B pb : Nat} {f1 f2 f3 : Value} {nm : ByteArray} {ex : List (ByteArray × ByteArray)} {is : List IE} {es : List (Dat × Option Addr × Nat)} {ev iv bv : Value} {w w' : World} (h : PSx B pb f1 f2 f3 nm ex is es ev iv bv w) (hb : Below w.heap.size w w') : PSx B pb f1 f2 f3 nm ex is es ev iv bv w' := by
  have st : ∀ k, Fre B pb ev iv bv w k → w'.heap[k]? = w.heap[k]? := fun k hk => hb.block k hk.2.1
  have up : ∀ k, Fre B pb ev iv bv w k → Fre B pb ev iv bv w' k := fun k hk => ⟨hk.1, Nat.lt_of_lt_of_le hk.2.1 hb.size, hk.2.2⟩
  exact ⟨h.hB, Nat.lt_of_lt_of_le h.rl hb.size, (hb.block pb (Array.getElem?_eq_some_iff.1 h.blk).1).trans h.blk, own_below h.eo hb, own_below h.io hb, own_below h.bo hb, fun e he => IE.stay (h.ik e he) st up, fun e he => by
    obtain ⟨h1, h2, f, h3⟩ := h.bk e he
    exact ⟨h1, h2, f, Dc.stay st up f _ _ h3⟩⟩
theorem PS.below {B pb : Nat} {f1 f2 f3 : Value} {s : LibS} {w w' : World} (h : PS B pb f1 f2 f3 s w) (hb : Below w.heap.size w w') : PS B pb f1 f2 f3 s w' := by
  obtain ⟨is, es, ev, iv, bv, h1, h2, h3⟩ := h
  exact ⟨is, es, ev, iv, bv, h1.below hb, h2, h3⟩
theorem PSx.hs {B pb : Nat} {f1 f2 f3 : Value} {nm : ByteArray} {ex : List (ByteArray × ByteArray)} {is : List IE} {es : List (Dat × Option Addr × Nat)} {ev iv bv : Value} {w : World} (h : PSx B pb f1 f2 f3 nm ex is es ev iv bv w) : B ≤ w.heap.size := by
  have := (Array.getElem?_eq_some_iff.1 h.blk).1
  have := h.hB
  omega
theorem PSx.fresh {B pb : Nat} {f1 f2 f3 : Value} {nm : ByteArray} {ex : List (ByteArray × ByteArray)} {is : List IE} {es : List (Dat × Option Addr × Nat)} {ev iv bv : Value} {w w' : World} (h : PSx B pb f1 f2 f3 nm ex is es ev iv bv w) {k : Nat} (h1 : w.heap.size ≤ k) (h2 : k < w'.heap.size) : Fre B pb ev iv bv w' k := by
  have hp := (Array.getElem?_eq_some_iff.1 h.blk).1
  refine ⟨⟨Nat.le_trans h.hs h1, by have := h.rl; omega⟩, h2, by omega, fun e => ?_, fun e => ?_, fun e => ?_⟩
  · have := (own_typeL h.eo k e.symm).2.1; omega
  · have := (own_typeL h.io k e.symm).2.1; omega
  · have := (own_typeL h.bo k e.symm).2.1; omega
theorem own_ne {w : World} {B B' s s' n n' k k' : Nat} {t t' : TypeId} {v v' : Value} {xs xs' : List Value} (h : w.ownsRow B t s v n xs) (h' : w.ownsRow B' t' s' v' n' xs') (ht : t ≠ t') (hk : v.ownBlock = some k) (hk' : v'.ownBlock = some k') : k ≠ k' := by
  rintro rfl
  obtain ⟨_, _, cs, h1⟩ := own_typeL h k hk
  obtain ⟨_, _, cs', h2⟩ := own_typeL h' k hk'
  rw [h1] at h2
  simp at h2
  exact ht h2.2
theorem own_pb {w : World} {B s n k pb : Nat} {t : TypeId} {v : Value} {xs : List Value} {cs : Array Value} (h : w.ownsRow B t s v n xs) (hp : w.heap[pb]? = some (.cells cs 57 (0, 0))) (ht : t ≠ 57) (hk : v.ownBlock = some k) : k ≠ pb := by
  rintro rfl
  obtain ⟨_, _, cs', h2⟩ := own_typeL h k hk
  rw [hp] at h2
  simp at h2
  exact ht h2.2.symm
end
section
set_option linter.unusedVariables false
set_option linter.unusedSimpArgs false
open Go.RowKit

structure BT (B : Nat) (w w' : World) : Prop extends Below B w w' where
  ty : ∀ (k : Nat) (cs : Array Value), w.heap[k]? = some (.cells cs 30 (0, 0)) → w'.heap[k]? = some (.cells cs 30 (0, 0))
theorem BT.refl (B : Nat) (w : World) : BT B w w := ⟨Below.refl _ _, fun _ _ h => h⟩
theorem BT.trans {B : Nat} {a b c : World} (h : BT B a b) (h' : BT B b c) : BT B a c := ⟨h.toBelow.trans h'.toBelow, fun k cs hk => h'.ty k cs (h.ty k cs hk)⟩
theorem _root_.Go.RowKit.Below.bt {B : Nat} {w w' : World} (h : Below w.heap.size w w') (hB : B ≤ w.heap.size) : BT B w w' := ⟨h.mono hB, fun k cs hk => (h.block k (Array.getElem?_eq_some_iff.1 hk).1).trans hk⟩
theorem kt_grow {w1 w2 : World} {B t s n pb q : Nat} {v v' : Value} {xs : List Value} {cs : Array Value} (hown : w1.ownsRow B t s v n xs) (ht : t ≠ 30) (hblk : w1.heap[pb]? = some (.cells cs 57 (0, 0))) (hgrow : w1.grownBy w2 v.ownBlock) : ∀ (k : Nat) (cs : Array Value), w1.heap[k]? = some (.cells cs 30 (0, 0)) → (w2.setCell ⟨pb, q, none⟩ v').heap[k]? = some (.cells cs 30 (0, 0)) := by
  intro k cs' hk
  have h1 : k ≠ pb := by
    rintro rfl
    rw [hblk] at hk
    simp at hk
  have h2 : some k ≠ v.ownBlock := by
    intro e
    obtain ⟨_, _, cs2, h3⟩ := own_typeL hown k e.symm
    rw [hk] at h3
    simp at h3
    exact ht h3.2.symm
  rw [Below.heap_setCell _ _ _ _ (show k ≠ pb from h1)]
  exact (hgrow.block k (Array.getElem?_eq_some_iff.1 hk).1 h2).trans hk
theorem run_row {P : Program} (w : World) (base : Nat) (t ty e : TypeId) (i : TypeInfo) (z : Value) (size bytes : Nat) (ht : P.underlying t = some (.slice e)) (hi : P.info? e = some i) (hz : i.zero = some z)
    (hsize : i.size = size) (hby : i.bytes = bytes) (hzs : z.cells.size = size) (hsz : 0 < size)
    (v : Value) (n : Nat) (xs : List Value) (hown : w.ownsRow base e size v n xs)
    (xa : Option Addr) (m c : Nat) (news : List Value) (hl : news.length = m * size) (hsrc : m = 0 ∨ ∃ b o, xa = some ⟨b, o, none⟩ ∧ ∀ j u, news[j]? = some u → w.cell? ⟨b, o + j, none⟩ = some u) (h1 : ∀ u ∈ news, u.oneCell' = true)
    (h63 : n + m ≤ maxLen) (hbytes : (n + m) * bytes ≤ 140737488355328) (hbase : base ≤ w.heap.size) :
    ∃ v' w', (Builtin.append_ #[t, t] ty #[v, .slice xa m c]).run P w = .ok v' w' ∧ w'.ownsRow base e size v' (n + m) (xs ++ news) ∧ w.grownBy w' v.ownBlock ∧ (v'.ownBlock = v.ownBlock ∨ v'.ownBlock = some w.heap.size) := by
  by_cases hm : m = 0
  · subst hm
    have hn0 : news = [] := List.length_eq_zero_iff.1 (by simpa using hl)
    subst hn0
    obtain ⟨va, vc, rfl, hvc⟩ : ∃ va vc, v = .slice va n vc ∧ n ≤ vc := by
      rcases hown.2 with ⟨rfl, rfl⟩ | ⟨g, cap, cur, rfl, hbg, hg, hnc, hcm, hcs, htake⟩
      · exact ⟨none, 0, rfl, Nat.le_refl _⟩
      · exact ⟨_, cap, rfl, hnc⟩
    have hr2 : (Builtin.append_ #[t, t] ty #[.slice va n vc, .slice xa 0 c]).run P w = .ok (.slice va n vc) w := by
      refine run_append_nothing w t t ty e i ht hi va n vc hvc (.slice xa 0 c) ?_
      cases xa with
      | none => exact Src.ofNil w ht c
      | some a => exact Src.ofSlice w ht a 0 c [] (by simp) (by simp) (by simp)
    exact ⟨_, _, hr2, by simpa using hown, ⟨rfl, rfl, rfl, Nat.le_refl _, fun _ _ _ => rfl⟩, Or.inl rfl⟩
  · rcases hsrc with h0 | ⟨b, o, rfl, hc⟩
    · exact absurd h0 hm
    · exact run_append_where (P := P) w base t ty e i z size bytes ht hi hz hsize hby hzs hsz v n xs hown ⟨b, o, none⟩ m c news hl (fun j u hu => by
        have hadd : (⟨b, o, none⟩ : Addr).add j = ⟨b, o + j, none⟩ := by unfold Addr.add; split <;> simp_all
        rw [hadd]
        exact hc j u hu) h1 (by omega) h63 hbytes hbase
theorem wpList_row {P : Program} {w : World} {ops : Array Oper} {rest : List Oper} {o : Oper} {a : Act} {Q : Exit → Act → World → Prop} (hgd : o.guard = none) (s x : Operand) (t : TypeId)
    (ho : o.op = .call { callee := .builtin .append, args := #[s, x], argTypes := #[t, t] })
    (base : Nat) (e : TypeId) (i : TypeInfo) (z : Value) (size bytes : Nat) (ht : P.underlying t = some (.slice e)) (hi : P.info? e = some i) (hz : i.zero = some z)
    (hsize : i.size = size) (hby : i.bytes = bytes) (hzs : z.cells.size = size) (hsz : 0 < size)
    (v : Value) (n : Nat) (xs : List Value) (hs : a.eval s = v) (hown : w.ownsRow base e size v n xs)
    (xa : Option Addr) (m c : Nat) (news : List Value) (hx : a.eval x = .slice xa m c) (hl : news.length = m * size) (hsrc : m = 0 ∨ ∃ b o, xa = some ⟨b, o, none⟩ ∧ ∀ j u, news[j]? = some u → w.cell? ⟨b, o + j, none⟩ = some u) (h1 : ∀ u ∈ news, u.oneCell' = true)
    (h63 : n + m ≤ maxLen) (hbytes : (n + m) * bytes ≤ 140737488355328) (hbase : base ≤ w.heap.size)
    (h : ∀ v' w', w'.ownsRow base e size v' (n + m) (xs ++ news) → w.grownBy w' v.ownBlock → (v'.ownBlock = v.ownBlock ∨ v'.ownBlock = some w.heap.size) → wpList P ops Q rest (a.put o.dst v') w') : wpList P ops Q (o :: rest) a w := by
  refine wpList_plain hgd fun _ hK => ?_
  obtain ⟨v', w', hr, h2, h3, h4⟩ := run_row (P := P) w base t o.type e i z size bytes ht hi hz hsize hby hzs hsz v n xs hown xa m c news hl hsrc h1 h63 hbytes hbase
  unfold Oper.wp execOp
  simp only [ho, resolve, invoke, builtin, Sem.run_bind, Sem.run_pure, Result.andThen_ok, List.map_toArray, List.map_cons, List.map_nil, hs, hx, hr]
  exact hK _ _ (h v' w' h2 h3 h4)
theorem PSx.exps {B pb : Nat} {f1 f2 f3 : Value} {nm : ByteArray} {ex : List (ByteArray × ByteArray)} {is : List IE} {es : List (Dat × Option Addr × Nat)} {new : List (ByteArray × ByteArray)} {ev iv bv v' : Value} {n : Nat} {w1 w2 : World} (h : PSx B pb f1 f2 f3 nm ex is es ev iv bv w1)
    (hown : w2.ownsRow B 70 2 v' n (flatE (ex ++ new))) (hlen : n = (ex ++ new).length) (hgrow : w1.grownBy w2 ev.ownBlock) (hat : v'.ownBlock = ev.ownBlock ∨ v'.ownBlock = some w1.heap.size) :
    PSx B pb f1 f2 f3 nm (ex ++ new) is es v' iv bv (w2.setCell ⟨pb, 4, none⟩ v') ∧ Below B w1 (w2.setCell ⟨pb, 4, none⟩ v') := by
  subst hlen
  have hpl := (Array.getElem?_eq_some_iff.1 h.blk).1
  have hpb2 : w2.heap[pb]? = some (.cells #[f1, f2, f3, .string nm, ev, iv, bv] 57 (0, 0)) := (hgrow.block pb hpl (fun e => own_pb h.eo h.blk (by decide) e.symm rfl)).trans h.blk
  have hblk : (w2.setCell ⟨pb, 4, none⟩ v').heap[pb]? = some (.cells #[f1, f2, f3, .string nm, v', iv, bv] 57 (0, 0)) := cell_setL hpb2 _
  have far : ∀ k, k < w1.heap.size → k ≠ pb → some k ≠ ev.ownBlock → (w2.setCell ⟨pb, 4, none⟩ v').heap[k]? = w1.heap[k]? := fun k h1 h2 h3 => (Below.heap_setCell _ _ _ _ (show k ≠ pb from h2)).trans (hgrow.block k h1 h3)
  have hgp : ∀ g, v'.ownBlock = some g → g ≠ pb := fun g hg => by
    rcases hat with e | e
    · exact own_pb h.eo h.blk (by decide) (e.symm.trans hg)
    · rw [e] at hg
      cases hg
      omega
  have hsz : (w2.setCell ⟨pb, 4, none⟩ v').heap.size = w2.heap.size := by simp
  have st : ∀ k, Fre B pb ev iv bv w1 k → (w2.setCell ⟨pb, 4, none⟩ v').heap[k]? = w1.heap[k]? := fun k hk => far k hk.2.1 hk.2.2.1 hk.2.2.2.1
  have up : ∀ k, Fre B pb ev iv bv w1 k → Fre B pb v' iv bv (w2.setCell ⟨pb, 4, none⟩ v') k := fun k hk => by
    refine ⟨hk.1, by rw [hsz]; exact Nat.lt_of_lt_of_le hk.2.1 hgrow.size, hk.2.2.1, fun e => ?_, hk.2.2.2.2.1, hk.2.2.2.2.2⟩
    rcases hat with e' | e'
    · exact hk.2.2.2.1 (e.trans e')
    · rw [e'] at e
      cases e
      have := hk.2.1
      omega
  exact ⟨⟨h.hB, by rw [hsz]; exact Nat.lt_of_lt_of_le h.rl hgrow.size, hblk, own_keepL hown (fun q hq => Below.heap_setCell _ _ _ _ (show q ≠ pb from hgp q hq)), own_keepL h.io (fun q hq => far q (own_typeL h.io q hq).2.1 (own_pb h.io h.blk (by decide) hq) (fun e => own_ne h.io h.eo (by decide) hq e.symm rfl)), own_keepL h.bo (fun q hq => far q (own_typeL h.bo q hq).2.1 (own_pb h.bo h.blk (by decide) hq) (fun e => own_ne h.bo h.eo (by decide) hq e.symm rfl)), fun e he => IE.stay (h.ik e he) st up, fun e he => by
    obtain ⟨a1, a2, f, a3⟩ := h.bk e he
    exact ⟨a1, a2, f, Dc.stay st up f _ _ a3⟩⟩, (grown_below hgrow h.hs (fun q hq => (own_typeL h.eo q hq).1)).setCell (p := ⟨pb, 4, none⟩) h.hB _⟩
theorem PSx.imps {B pb : Nat} {f1 f2 f3 : Value} {nm : ByteArray} {ex : List (ByteArray × ByteArray)} {is : List IE} {es : List (Dat × Option Addr × Nat)} {new : List IE} {ev iv bv v' : Value} {n : Nat} {w1 w2 : World} (h : PSx B pb f1 f2 f3 nm ex is es ev iv bv w1) (hn : ∀ e ∈ new, e.ok (Fre B pb ev iv bv w1) w1)
    (hown : w2.ownsRow B 73 6 v' n (flatI (is ++ new))) (hlen : n = (is ++ new).length) (hgrow : w1.grownBy w2 iv.ownBlock) (hat : v'.ownBlock = iv.ownBlock ∨ v'.ownBlock = some w1.heap.size) :
    PSx B pb f1 f2 f3 nm ex (is ++ new) es ev v' bv (w2.setCell ⟨pb, 5, none⟩ v') ∧ Below B w1 (w2.setCell ⟨pb, 5, none⟩ v') := by
  subst hlen
  have hpl := (Array.getElem?_eq_some_iff.1 h.blk).1
  have hpb2 : w2.heap[pb]? = some (.cells #[f1, f2, f3, .string nm, ev, iv, bv] 57 (0, 0)) := (hgrow.block pb hpl (fun e => own_pb h.io h.blk (by decide) e.symm rfl)).trans h.blk
  have hblk : (w2.setCell ⟨pb, 5, none⟩ v').heap[pb]? = some (.cells #[f1, f2, f3, .string nm, ev, v', bv] 57 (0, 0)) := cell_setL hpb2 _
  have far : ∀ k, k < w1.heap.size → k ≠ pb → some k ≠ iv.ownBlock → (w2.setCell ⟨pb, 5, none⟩ v').heap[k]? = w1.heap[k]? := fun k h1 h2 h3 => (Below.heap_setCell _ _ _ _ (show k ≠ pb from h2)).trans (hgrow.block k h1 h3)
  have hgp : ∀ g, v'.ownBlock = some g → g ≠ pb := fun g hg => by
    rcases hat with e | e
    · exact own_pb h.io h.blk (by decide) (e.symm.trans hg)
    · rw [e] at hg
      cases hg
      omega
  have hsz : (w2.setCell ⟨pb, 5, none⟩ v').heap.size = w2.heap.size := by simp
  have st : ∀ k, Fre B pb ev iv bv w1 k → (w2.setCell ⟨pb, 5, none⟩ v').heap[k]? = w1.heap[k]? := fun k hk => far k hk.2.1 hk.2.2.1 hk.2.2.2.2.1
  have up : ∀ k, Fre B pb ev iv bv w1 k → Fre B pb ev v' bv (w2.setCell ⟨pb, 5, none⟩ v') k := fun k hk => by
    refine ⟨hk.1, by rw [hsz]; exact Nat.lt_of_lt_of_le hk.2.1 hgrow.size, hk.2.2.1, hk.2.2.2.1, fun e => ?_, hk.2.2.2.2.2⟩
    rcases hat with e' | e'
    · exact hk.2.2.2.2.1 (e.trans e')
    · rw [e'] at e
      cases e
      have := hk.2.1
      omega
  exact ⟨⟨h.hB, by rw [hsz]; exact Nat.lt_of_lt_of_le h.rl hgrow.size, hblk, own_keepL h.eo (fun q hq => far q (own_typeL h.eo q hq).2.1 (own_pb h.eo h.blk (by decide) hq) (fun e => own_ne h.eo h.io (by decide) hq e.symm rfl)), own_keepL hown (fun q hq => Below.heap_setCell _ _ _ _ (show q ≠ pb from hgp q hq)), own_keepL h.bo (fun q hq => far q (own_typeL h.bo q hq).2.1 (own_pb h.bo h.blk (by decide) hq) (fun e => own_ne h.bo h.io (by decide) hq e.symm rfl)), fun e he => by rcases List.mem_append.1 he with he | he; exact IE.stay (h.ik e he) st up; exact IE.stay (hn e he) st up, fun e he => by
    obtain ⟨a1, a2, f, a3⟩ := h.bk e he
    exact ⟨a1, a2, f, Dc.stay st up f _ _ a3⟩⟩, (grown_below hgrow h.hs (fun q hq => (own_typeL h.io q hq).1)).setCell (p := ⟨pb, 5, none⟩) h.hB _⟩
theorem PSx.body {B pb : Nat} {f1 f2 f3 : Value} {nm : ByteArray} {ex : List (ByteArray × ByteArray)} {is : List IE} {es : List (Dat × Option Addr × Nat)} {new : List (Dat × Option Addr × Nat)} {ev iv bv v' : Value} {n : Nat} {w1 w2 : World} (h : PSx B pb f1 f2 f3 nm ex is es ev iv bv w1) (hn : ∀ e ∈ new, e.1.name.size ≤ maxLen ∧ e.1.kids.length ≤ e.2.2 ∧ ∃ f, Dc (Fre B pb ev iv bv w1) w1 f e.2.1 e.1.kids)
    (hown : w2.ownsRow B 26 6 v' n (flat (es ++ new))) (hlen : n = (es ++ new).length) (hgrow : w1.grownBy w2 bv.ownBlock) (hat : v'.ownBlock = bv.ownBlock ∨ v'.ownBlock = some w1.heap.size) :
    PSx B pb f1 f2 f3 nm ex is (es ++ new) ev iv v' (w2.setCell ⟨pb, 6, none⟩ v') ∧ Below B w1 (w2.setCell ⟨pb, 6, none⟩ v') := by
  subst hlen
  have hpl := (Array.getElem?_eq_some_iff.1 h.blk).1
  have hpb2 : w2.heap[pb]? = some (.cells #[f1, f2, f3, .string nm, ev, iv, bv] 57 (0, 0)) := (hgrow.block pb hpl (fun e => own_pb h.bo h.blk (by decide) e.symm rfl)).trans h.blk
  have hblk : (w2.setCell ⟨pb, 6, none⟩ v').heap[pb]? = some (.cells #[f1, f2, f3, .string nm, ev, iv, v'] 57 (0, 0)) := cell_setL hpb2 _
  have far : ∀ k, k < w1.heap.size → k ≠ pb → some k ≠ bv.ownBlock → (w2.setCell ⟨pb, 6, none⟩ v').heap[k]? = w1.heap[k]? := fun k h1 h2 h3 => (Below.heap_setCell _ _ _ _ (show k ≠ pb from h2)).trans (hgrow.block k h1 h3)
  have hgp : ∀ g, v'.ownBlock = some g → g ≠ pb := fun g hg => by
    rcases hat with e | e
    · exact own_pb h.bo h.blk (by decide) (e.symm.trans hg)
    · rw [e] at hg
      cases hg
      omega
  have hsz : (w2.setCell ⟨pb, 6, none⟩ v').heap.size = w2.heap.size := by simp
  have st : ∀ k, Fre B pb ev iv bv w1 k → (w2.setCell ⟨pb, 6, none⟩ v').heap[k]? = w1.heap[k]? := fun k hk => far k hk.2.1 hk.2.2.1 hk.2.2.2.2.2
  have up : ∀ k, Fre B pb ev iv bv w1 k → Fre B pb ev iv v' (w2.setCell ⟨pb, 6, none⟩ v') k := fun k hk => by
    refine ⟨hk.1, by rw [hsz]; exact Nat.lt_of_lt_of_le hk.2.1 hgrow.size, hk.2.2.1, hk.2.2.2.1, hk.2.2.2.2.1, fun e => ?_⟩
    rcases hat with e' | e'
    · exact hk.2.2.2.2.2 (e.trans e')
    · rw [e'] at e
      cases e
      have := hk.2.1
      omega
  exact ⟨⟨h.hB, by rw [hsz]; exact Nat.lt_of_lt_of_le h.rl hgrow.size, hblk, own_keepL h.eo (fun q hq => far q (own_typeL h.eo q hq).2.1 (own_pb h.eo h.blk (by decide) hq) (fun e => own_ne h.eo h.bo (by decide) hq e.symm rfl)), own_keepL h.io (fun q hq => far q (own_typeL h.io q hq).2.1 (own_pb h.io h.blk (by decide) hq) (fun e => own_ne h.io h.bo (by decide) hq e.symm rfl)), own_keepL hown (fun q hq => Below.heap_setCell _ _ _ _ (show q ≠ pb from hgp q hq)), fun e he => IE.stay (h.ik e he) st up, fun e he => by
    rcases List.mem_append.1 he with he | he
    · obtain ⟨a1, a2, f, a3⟩ := h.bk e he
      exact ⟨a1, a2, f, Dc.stay st up f _ _ a3⟩
    · obtain ⟨a1, a2, f, a3⟩ := hn e he
      exact ⟨a1, a2, f, Dc.stay st up f _ _ a3⟩⟩, (grown_below hgrow h.hs (fun q hq => (own_typeL h.bo q hq).1)).setCell (p := ⟨pb, 6, none⟩) h.hB _⟩
theorem flat_len : ∀ (es : List (Dat × Option Addr × Nat)), (flat es).length = es.length * 6
  | [] => rfl
  | e :: r => by
    show (_ ++ flat r).length = _
    rw [List.length_append, flat_len r]
    simp
    omega
theorem flat_one (es : List (Dat × Option Addr × Nat)) : ∀ u ∈ flat es, u.oneCell' = true := by
  intro u hu
  unfold flat at hu
  obtain ⟨e, _, hu⟩ := List.mem_flatMap.1 hu
  simp at hu
  rcases hu with rfl | rfl | rfl | rfl | rfl | rfl <;> rfl
theorem flat_append (a b : List (Dat × Option Addr × Nat)) : flat (a ++ b) = flat a ++ flat b := by simp [flat]
set_option maxRecDepth 100000 in
set_option maxHeartbeats 6400000 in
theorem add_many (B pb : Nat) (f1 f2 f3 : Value) (s : LibS) (la : Option Addr) (ln lc : Nat) (w : World) (h : PS B pb f1 f2 f3 s w) (hb9 : s.body.length ≤ 200) (hl9 : ln ≤ 2000) (hm : 200 < s.body.length + ln) :
    Calls Tryz.prog 109 #[.pointer (some ⟨pb, 0, none⟩), .slice la ln lc] w fun e w' => Below w.heap.size w w' ∧ e = .panicked (thrownL 5) := by
  obtain ⟨is, es, ev, iv, bv, h1, h2, h3⟩ := h
  have hel : es.length = s.body.length := by rw [← h3]; simp
  obtain ⟨ba, bc, rfl, hbc⟩ := own_sliceL h1.bo
  have c6 : w.cell? ⟨pb, 6, none⟩ = some (.slice ba es.length bc) := (cellO h1.blk).trans rfl
  have HN := hidd (must_no 5)
  have k1 : es.length ≤ 200 := by omega
  have k2 : decide ((es.length : Int) + (ln : Int) ≤ 200) = false := by simp; omega
  have k3 : ¬ ((es.length : Int) + (ln : Int) ≤ 200) := by omega
  clear h1 h2 h3 hm hb9 hbc hel
  generalize es.length = n at *
  go_enter Tryz.func109, Tryz.ntmps109
  go_wp2_with fail
  refine (HN.out _).mono ?_
  rintro e w1 ⟨rfl, rfl⟩
  go_wp2_with fail
  exact ⟨rfl, Below.refl _ _, rfl⟩
set_option maxRecDepth 100000 in
set_option maxHeartbeats 6400000 in
theorem add_ok (B pb : Nat) (f1 f2 f3 : Value) (s : LibS) (la : Option Addr) (es2 : List (Dat × Option Addr × Nat)) (lc : Nat) (w : World) (h : PS B pb f1 f2 f3 s w) (hm : s.body.length + es2.length ≤ 200) (hsrc : es2.length = 0 ∨ ∃ b o, la = some ⟨b, o, none⟩ ∧ ∀ j u, (flat es2)[j]? = some u → w.cell? ⟨b, o + j, none⟩ = some u)
    (hk : ∀ ev iv bv is es, PSx B pb f1 f2 f3 s.name s.exports is es ev iv bv w → ∀ e ∈ es2, e.1.name.size ≤ maxLen ∧ e.1.kids.length ≤ e.2.2 ∧ ∃ f, Dc (Fre B pb ev iv bv w) w f e.2.1 e.1.kids) :
    Calls Tryz.prog 109 #[.pointer (some ⟨pb, 0, none⟩), .slice la es2.length lc] w fun e w' => BT B w w' ∧ e = .returned (.tuple #[]) ∧ PS B pb f1 f2 f3 { s with body := s.body ++ es2.map (·.1) } w' := by
  obtain ⟨is, es, ev, iv, bv, h1, h2, h3⟩ := h
  have hk1 := hk ev iv bv is es h1
  have hel : es.length = s.body.length := by rw [← h3]; simp
  obtain ⟨ba, bc, rfl, hbc⟩ := own_sliceL h1.bo
  have c6 : w.cell? ⟨pb, 6, none⟩ = some (.slice ba es.length bc) := (cellO h1.blk).trans rfl
  have HY := hidd (must_yes 5)
  have k1 : es.length ≤ 200 := by omega
  have k4 : es2.length ≤ 200 := by omega
  have k2 : decide ((es.length : Int) + (es2.length : Int) ≤ 200) = true := by simp; omega
  have k3 : (es.length : Int) + (es2.length : Int) ≤ 200 := by omega
  have H1 := hidd h1
  have HK := hidd hk1
  have HSRC := hidd hsrc
  have HE : Hid (is.map IE.s = s.imports ∧ es.map (·.1) = s.body) := ⟨h2, h3⟩
  have hB := h1.hs
  obtain ⟨i0, hinf, hz0, hz1, hz2⟩ := info_partsL infoDatL
  clear h1 h2 h3 hm hbc hel hk hk1 hsrc
  go_enter Tryz.func109, Tryz.ntmps109
  go_wp2_with fail
  refine (HY.out _).mono ?_
  rintro e w1 ⟨rfl, hw1⟩
  rw [hw1]
  clear hw1
  go_wp2_with (at_builtin; refine wpList_row rfl _ _ 24 rfl B 26 i0 _ 6 72 Tryz.underlying24 hinf hz0 hz1 hz2 rfl (by decide) (.slice ba es.length bc) es.length (flat es) rfl (by exact H1.out.bo) la es2.length lc (flat es2) rfl (flat_len es2) HSRC.out (flat_one es2) (by unfold maxLen; omega) (by omega) hB ?_; intro v2 w2 hown hgrow hat; obtain ⟨va, vc, rfl, hvc⟩ := own_sliceL hown; have HX := hidd (And.intro (PSx.body H1.out HK.out (by rw [flat_append]; exact hown) (by simp) hgrow hat) (kt_grow (q := 6) (v' := .slice va (es.length + es2.length) vc) H1.out.bo (by decide) H1.out.blk hgrow)); have hp2 : w2.heap[pb]? = some (.cells #[f1, f2, f3, .string s.name, ev, iv, .slice ba es.length bc] 57 (0, 0)) := (hgrow.block pb (Array.getElem?_eq_some_iff.1 H1.out.blk).1 (fun e => own_pb H1.out.bo H1.out.blk (by decide) e.symm rfl)).trans H1.out.blk; have d6 : w2.cell? ⟨pb, 6, none⟩ = some (.slice ba es.length bc) := (cellO hp2).trans rfl; have z6 : w2.frozen? ⟨pb, 6, none⟩ = false := looseO hp2; clear hown hgrow hat hp2 hvc)
  go_end0
  exact ⟨⟨HX.out.1.2, HX.out.2⟩, rfl, is, es ++ es2, ev, iv, _, HX.out.1.1, HE.out.1, by rw [List.map_append, HE.out.2]⟩
end
end Go.Proofs.YtonafbennobgdaaGreatDoor
