/- Chapter 9, the document's side: a unit made bare. Chapter 9, the document's side: a unit made bare. -/
import Derived.Deep.CutBlock
import Derived.Test.YtdnbingddbakaaaGreatDoorK14
import Derived.Test.YtdnbingddbakaaaGreatDoorK40
import Derived.Test.YtdnbingddbakaaaGreatDoorK41
namespace Go.Proofs.YtdnbingddbakaaaGreatDoor
section
set_option linter.unusedVariables false
set_option linter.unusedSimpArgs false
open Go.RowKit

theorem run_rowS {P : Program} (w : World) (base : Nat) (t ty e : TypeId) (i : TypeInfo) (z : Value) (size bytes : Nat) (ht : P.underlying t = some (.slice e)) (hi : P.info? e = some i) (hz : i.zero = some z)
    (hsize : i.size = size) (hby : i.bytes = bytes) (hzs : z.cells.size = size) (hsz : 0 < size)
    (v : Value) (n : Nat) (xs : List Value) (hown : w.ownsRow base e size v n xs)
    (xa : Option Addr) (m c : Nat) (news : List Value) (hl : news.length = m * size) (hsrc : m = 0 ∨ ∃ b o, xa = some ⟨b, o, none⟩ ∧ ∀ j u, news[j]? = some u → w.cell? ⟨b, o + j, none⟩ = some u) (h1 : ∀ u ∈ news, u.oneCell' = true)
    (h63 : n + m ≤ maxLen) (hbytes : (n + m) * bytes ≤ 140737488355328) (hbase : base ≤ w.heap.size) :
    ∃ v' w', (Builtin.append_ #[t, t] ty #[v, .slice xa m c]).run P w = .ok v' w' ∧ w'.ownsRow base e size v' (n + m) (xs ++ news) ∧ w.grownBy w' v.ownBlock ∧ (v'.ownBlock = v.ownBlock ∨ v'.ownBlock = some w.heap.size) := by
  by_cases hm : m = 0
  · subst hm
    have hn0 : news = [] := List.length_eq_zero_iff.1 (by simpa using hl)
    subst hn0
    obtain ⟨va, vc, rfl, hvc⟩ : ∃ va vc, v = .slice va n vc ∧ n ≤ vc := by
      rcases hown.2 with ⟨rfl, rfl⟩ | ⟨g, cap, cur, rfl, hbg, hg, hnc, hcm, hcs, htake⟩
      · exact ⟨none, 0, rfl, Nat.le_refl _⟩
      · exact ⟨_, cap, rfl, hnc⟩
    have hr2 : (Builtin.append_ #[t, t] ty #[.slice va n vc, .slice xa 0 c]).run P w = .ok (.slice va n vc) w := by
      refine run_append_nothing w t t ty e i ht hi va n vc hvc (.slice xa 0 c) ?_
      cases xa with
      | none => exact Src.ofNil w ht c
      | some a => exact Src.ofSlice w ht a 0 c [] (by simp) (by simp) (by simp)
    exact ⟨_, _, hr2, by simpa using hown, ⟨rfl, rfl, rfl, Nat.le_refl _, fun _ _ _ => rfl⟩, Or.inl rfl⟩
  · rcases hsrc with h0 | ⟨b, o, rfl, hc⟩
    · exact absurd h0 hm
    · exact run_append_where (P := P) w base t ty e i z size bytes ht hi hz hsize hby hzs hsz v n xs hown ⟨b, o, none⟩ m c news hl (fun j u hu => by
        have hadd : (⟨b, o, none⟩ : Addr).add j = ⟨b, o + j, none⟩ := by unfold Addr.add; split <;> simp_all
        rw [hadd]
        exact hc j u hu) h1 (by omega) h63 hbytes hbase
theorem wpList_rowS {P : Program} {w : World} {ops : Array Oper} {rest : List Oper} {o : Oper} {a : Act} {Q : Exit → Act → World → Prop} (hgd : o.guard = none) (s x : Operand) (t : TypeId)
    (ho : o.op = .call { callee := .builtin .append, args := #[s, x], argTypes := #[t, t] })
    (base : Nat) (e : TypeId) (i : TypeInfo) (z : Value) (size bytes : Nat) (ht : P.underlying t = some (.slice e)) (hi : P.info? e = some i) (hz : i.zero = some z)
    (hsize : i.size = size) (hby : i.bytes = bytes) (hzs : z.cells.size = size) (hsz : 0 < size)
    (v : Value) (n : Nat) (xs : List Value) (hs : a.eval s = v) (hown : w.ownsRow base e size v n xs)
    (xa : Option Addr) (m c : Nat) (news : List Value) (hx : a.eval x = .slice xa m c) (hl : news.length = m * size) (hsrc : m = 0 ∨ ∃ b o, xa = some ⟨b, o, none⟩ ∧ ∀ j u, news[j]? = some u → w.cell? ⟨b, o + j, none⟩ = some u) (h1 : ∀ u ∈ news, u.oneCell' = true)
    (h63 : n + m ≤ maxLen) (hbytes : (n + m) * bytes ≤ 140737488355328) (hbase : base ≤ w.heap.size)
    (h : ∀ v' w', w'.ownsRow base e size v' (n + m) (xs ++ news) → w.grownBy w' v.ownBlock → (v'.ownBlock = v.ownBlock ∨ v'.ownBlock = some w.heap.size) → wpList P ops Q rest (a.put o.dst v') w') : wpList P ops Q (o :: rest) a w := by
  refine wpList_plain hgd fun _ hK => ?_
  obtain ⟨v', w', hr, h2, h3, h4⟩ := run_rowS (P := P) w base t o.type e i z size bytes ht hi hz hsize hby hzs hsz v n xs hown xa m c news hl hsrc h1 h63 hbytes hbase
  unfold Oper.wp execOp
  simp only [ho, resolve, invoke, builtin, Sem.run_bind, Sem.run_pure, Result.andThen_ok, List.map_toArray, List.map_cons, List.map_nil, hs, hx, hr]
  exact hK _ _ (h v' w' h2 h3 h4)

theorem own_slice {w : World} {base size n : Nat} {e : TypeId} {v : Value} {xs : List Value} (h : w.ownsRow base e size v n xs) : ∃ va vc, v = .slice va n vc ∧ n ≤ vc := by
  rcases h.2 with ⟨rfl, rfl⟩ | ⟨g, cap, cur, rfl, hbg, hg, hnc, hcm, hcs, htake⟩
  · exact ⟨none, 0, rfl, Nat.le_refl _⟩
  · exact ⟨_, cap, rfl, hnc⟩
theorem own_at {w : World} {base size n : Nat} {e : TypeId} {v : Value} {xs : List Value} (h : w.ownsRow base e size v n xs) (hn : 0 < n) : ∃ g vc, v = .slice (some ⟨g, 0, none⟩) n vc ∧ n ≤ vc ∧ base ≤ g ∧ g < w.heap.size ∧ v.ownBlock = some g ∧ ∀ j u, xs[j]? = some u → w.cell? ⟨g, j, none⟩ = some u := by
  rcases h.2 with ⟨rfl, rfl⟩ | ⟨g, cap, cur, rfl, hbg, hg, hnc, hcm, hcs, htake⟩
  · omega
  · refine ⟨g, cap, rfl, hnc, hbg, (Array.getElem?_eq_some_iff.1 hg).1, rfl, fun j u hu => ?_⟩
    rw [cellO hg]
    rw [← htake] at hu
    rw [List.getElem?_take] at hu
    split at hu
    · simpa using hu
    · simp at hu
theorem own_belowS {B n size : Nat} {T : TypeId} {v : Value} {xs : List Value} {w w' : World} (h : w.ownsRow B T size v n xs) (hk : Below w.heap.size w w') : w'.ownsRow B T size v n xs :=
  h.kept (row := none) ⟨hk.os, hk.tape, hk.output, hk.size, fun k h1 _ => hk.block k h1⟩ (by cases hv : v.ownBlock <;> simp)
theorem alloc1S (w : World) (cs : Array Value) (t : TypeId) (xs : List Value) (h : xs = cs.toList) (j : Nat) (u : Value) (hu : xs[j]? = some u) : (w.alloc (.cells cs t)).cell? ⟨w.heap.size, 0 + j, none⟩ = some u := by
  have := World.cell?_alloc_mark w cs t (0, 0) j
  rw [Nat.zero_add]
  refine this.trans ?_
  subst h
  rw [← hu]
  simp
/-- A procedure being made: box Q, its code a row of one's own. -/
structure AQ (Q : Nat) (ar : Int) (v : Value) (es : List IE) (w : World) : Prop where
  box : w.heap[Q]? = some (.cells #[.int .i64 ar, v] 47 (0, 0))
  row : w.ownsRow Q 52 11 v es.length (flatI es)
  sep : v.ownBlock ≠ some Q
  ok : ∀ e ∈ es, e.Ok (fun b => Q < b ∧ b < w.heap.size ∧ v.ownBlock ≠ some b) w
theorem AQ.lt {Q ar v es} {w : World} (h : AQ Q ar v es w) : Q < w.heap.size := (Array.getElem?_eq_some_iff.1 h.box).1
theorem AQ.below {Q ar v es} {w w' : World} (h : AQ Q ar v es w) (hb : Below w.heap.size w w') : AQ Q ar v es w' :=
  ⟨(hb.block _ h.lt).trans h.box, own_belowS h.row hb, h.sep, fun e he => (h.ok e he).stay (fun k hk => hb.block k hk.2.1) (fun _ hk => ⟨hk.1, Nat.lt_of_lt_of_le hk.2.1 hb.size, hk.2.2⟩)⟩
theorem AQ.start (W : World) (ar : Int) : AQ W.heap.size ar (.slice none 0 0) [] (W.alloc (.cells #[.int .i64 ar, .slice none 0 0] 47)) :=
  ⟨World.alloc_heap_new W _, ⟨by simp [flatI], Or.inl ⟨rfl, rfl⟩⟩, by simp [Value.ownBlock], by simp⟩
theorem AQ.push {Q ar v v' es} {w2 w4 : World} (h : AQ Q ar v es w2) (e : IE) (he : e.Ok (fun b => Q < b ∧ b < w2.heap.size ∧ v.ownBlock ≠ some b) w2)
    (hown : w4.ownsRow Q 52 11 v' (es.length + 1) (flatI es ++ e.cells)) (hg : w2.grownBy w4 v.ownBlock) (hw : v'.ownBlock = v.ownBlock ∨ v'.ownBlock = some w2.heap.size) :
    AQ Q ar v' (es ++ [e]) (w4.setCell ⟨Q, 1, none⟩ v') ∧ Below Q w2 (w4.setCell ⟨Q, 1, none⟩ v') ∧ w4.heap[Q]? = some (.cells #[.int .i64 ar, v] 47 (0, 0)) := by
  have hlt := h.lt
  have hs4 := hg.size
  have hke : Keep Q w4 (w4.setCell ⟨Q, 1, none⟩ v') := (Keep.refl _ _).setCell _ rfl _
  have hne : v'.ownBlock ≠ some Q := by
    rcases hw with e | e
    · rw [e]; exact h.sep
    · rw [e]; intro e2; have := Option.some.inj e2; omega
  have h5 : w4.heap[Q]? = some (.cells #[.int .i64 ar, v] 47 (0, 0)) := (hg.block Q hlt (fun e => h.sep e.symm)).trans h.box
  have hsz : w2.heap.size ≤ (w4.setCell ⟨Q, 1, none⟩ v').heap.size := Nat.le_trans hs4 (by simp [World.setCell])
  have hbq : Below Q w2 (w4.setCell ⟨Q, 1, none⟩ v') := ((Below.refl Q w2).grown hg (by omega) (fun k hk => (h.row.lt k hk).1)).trans (hke.toBelow (Nat.le_refl _) (by omega))
  refine ⟨⟨?_, ?_, hne, fun f hf => ?_⟩, hbq, h5⟩
  · have h6 := heap_setCell_same w4 Q 1 #[.int .i64 ar, v] 47 v' h5
    rw [h6]; rfl
  · have e1 : flatI (es ++ [e]) = flatI es ++ e.cells := by simp [flatI]
    rw [e1, List.length_append]
    exact hown.kept hke (Or.inr (by simpa using hne))
  · have h1 : f.Ok (fun b => Q < b ∧ b < w2.heap.size ∧ v.ownBlock ≠ some b) w2 := by
      rcases List.mem_append.1 hf with hf | hf
      · exact h.ok f hf
      · simp at hf
        subst hf
        exact he
    refine h1.stay (fun k hk => ?_) (fun k hk => ⟨hk.1, Nat.lt_of_lt_of_le hk.2.1 hsz, ?_⟩)
    · exact (Below.heap_setCell _ _ _ _ (Nat.ne_of_gt hk.1)).trans (hg.block k hk.2.1 (fun e => hk.2.2 e.symm))
    · rcases hw with e | e
      · rw [e]; exact hk.2.2
      · rw [e]; intro e2; have := Option.some.inj e2; omega
theorem AQ.pe {Q ar es} {a : Option Addr} {c : Nat} {w : World} (h : AQ Q ar (.slice a es.length c) es w) {ok : Nat → Prop} (h1 : ∀ b, Q < b → b < w.heap.size → ok b) : (PE.mk ar es a c).Ok ok w := by
  refine ⟨?_, ?_, fun e he => (h.ok e he).stay (fun _ _ => rfl) (fun b hb => h1 b hb.1 hb.2.1)⟩
  · obtain ⟨va, vc, e, hvc⟩ := own_slice h.row
    simp at e
    show es.length ≤ c
    rw [e.2]; exact hvc
  · by_cases h0 : es = []
    · exact Or.inl h0
    · obtain ⟨g, vc, e, hvc, hQg, hg, ho, hc⟩ := own_at h.row (List.length_pos_iff.2 h0)
      simp at e
      refine Or.inr ⟨g, e.1, h1 g ?_ hg, hc⟩
      have : g ≠ Q := fun e2 => h.sep (by rw [ho, e2])
      omega
/-- A unit being made: box O, its procedures a row of one's own. -/
structure AU (Q : Nat) (ar : ByteArray) (v : Value) (es : List PE) (w : World) : Prop where
  box : w.heap[Q]? = some (.cells #[.string ar, v] 24 (0, 0))
  row : w.ownsRow Q 47 2 v es.length (flatP es)
  sep : v.ownBlock ≠ some Q
  ok : ∀ e ∈ es, e.Ok (fun b => Q < b ∧ b < w.heap.size ∧ v.ownBlock ≠ some b) w
theorem AU.lt {Q ar v es} {w : World} (h : AU Q ar v es w) : Q < w.heap.size := (Array.getElem?_eq_some_iff.1 h.box).1
theorem AU.below {Q ar v es} {w w' : World} (h : AU Q ar v es w) (hb : Below w.heap.size w w') : AU Q ar v es w' :=
  ⟨(hb.block _ h.lt).trans h.box, own_belowS h.row hb, h.sep, fun e he => (h.ok e he).stay (fun k hk => hb.block k hk.2.1) (fun _ hk => ⟨hk.1, Nat.lt_of_lt_of_le hk.2.1 hb.size, hk.2.2⟩)⟩
theorem AU.start (W : World) (ar : ByteArray) : AU W.heap.size ar (.slice none 0 0) [] (W.alloc (.cells #[.string ar, .slice none 0 0] 24)) :=
  ⟨World.alloc_heap_new W _, ⟨by simp [flatP], Or.inl ⟨rfl, rfl⟩⟩, by simp [Value.ownBlock], by simp⟩
theorem AU.push {Q ar v v' es} {w2 w4 : World} (h : AU Q ar v es w2) (e : PE) (he : e.Ok (fun b => Q < b ∧ b < w2.heap.size ∧ v.ownBlock ≠ some b) w2)
    (hown : w4.ownsRow Q 47 2 v' (es.length + 1) (flatP es ++ e.cells)) (hg : w2.grownBy w4 v.ownBlock) (hw : v'.ownBlock = v.ownBlock ∨ v'.ownBlock = some w2.heap.size) :
    AU Q ar v' (es ++ [e]) (w4.setCell ⟨Q, 1, none⟩ v') ∧ Below Q w2 (w4.setCell ⟨Q, 1, none⟩ v') ∧ w4.heap[Q]? = some (.cells #[.string ar, v] 24 (0, 0)) := by
  have hlt := h.lt
  have hs4 := hg.size
  have hke : Keep Q w4 (w4.setCell ⟨Q, 1, none⟩ v') := (Keep.refl _ _).setCell _ rfl _
  have hne : v'.ownBlock ≠ some Q := by
    rcases hw with e | e
    · rw [e]; exact h.sep
    · rw [e]; intro e2; have := Option.some.inj e2; omega
  have h5 : w4.heap[Q]? = some (.cells #[.string ar, v] 24 (0, 0)) := (hg.block Q hlt (fun e => h.sep e.symm)).trans h.box
  have hsz : w2.heap.size ≤ (w4.setCell ⟨Q, 1, none⟩ v').heap.size := Nat.le_trans hs4 (by simp [World.setCell])
  have hbq : Below Q w2 (w4.setCell ⟨Q, 1, none⟩ v') := ((Below.refl Q w2).grown hg (by omega) (fun k hk => (h.row.lt k hk).1)).trans (hke.toBelow (Nat.le_refl _) (by omega))
  refine ⟨⟨?_, ?_, hne, fun f hf => ?_⟩, hbq, h5⟩
  · have h6 := heap_setCell_same w4 Q 1 #[.string ar, v] 24 v' h5
    rw [h6]; rfl
  · have e1 : flatP (es ++ [e]) = flatP es ++ e.cells := by simp [flatP]
    rw [e1, List.length_append]
    exact hown.kept hke (Or.inr (by simpa using hne))
  · have h1 : f.Ok (fun b => Q < b ∧ b < w2.heap.size ∧ v.ownBlock ≠ some b) w2 := by
      rcases List.mem_append.1 hf with hf | hf
      · exact h.ok f hf
      · simp at hf
        subst hf
        exact he
    refine h1.stay (fun k hk => ?_) (fun k hk => ⟨hk.1, Nat.lt_of_lt_of_le hk.2.1 hsz, ?_⟩)
    · exact (Below.heap_setCell _ _ _ _ (Nat.ne_of_gt hk.1)).trans (hg.block k hk.2.1 (fun e => hk.2.2 e.symm))
    · rcases hw with e | e
      · rw [e]; exact hk.2.2
      · rw [e]; intro e2; have := Option.some.inj e2; omega
end
section
set_option linter.unusedVariables false
set_option linter.unusedSimpArgs false
open Go.RowKit

/-- What is told of a unit made bare. -/
def ToldBr (nm : ByteArray) (PP : List Pro) (w : World) (e : Ending) (w' : World) : Prop :=
  ∃ (ps : List PE) (a : Option Addr) (c : Nat), e = .returned (.agg #[.string nm, .slice a ps.length c]) ∧ ps.map PE.pro = PP.map bareP ∧ Below w.heap.size w w' ∧ PEs (fun k => k < w'.heap.size) w' a c ps
theorem ret16 {ts : Array Value} {W : World} {N : Nat} {x0 x1 : Value} (h : W.heap[N]? = some (.cells #[x0, x1] 24 (0, 0))) (h4 : ts[2]? = some (.pointer (some ⟨N, 0, none⟩))) :
    (results Tryz.f16 ts).run Tryz.prog W = .ok (.agg #[x0, x1]) W := by
  have cc : ∀ q, W.cell? ⟨N, q, none⟩ = #[x0, x1][q]? := fun q => by simp [World.cell?, h]
  have q0 := cc 0
  have q1 := cc 1
  simp at q0 q1
  simp [results, Tryz.results16, go_sem, h4, q0, q1]
theorem bareI_small {x : In} (h3 : x.lib.size ≤ maxLen) (h4 : x.own.size ≤ maxLen) (h7 : x.quote.name.size ≤ maxLen) : (bareI x).lib.size ≤ maxLen ∧ (bareI x).own.size ≤ maxLen ∧ (bareI x).quote.name.size ≤ maxLen := by
  have hq : (bareQ x.quote).name.size ≤ maxLen := by
    cases hx : x.quote with
    | mk k n nm s lb ks =>
      rw [hx] at h7
      rw [bareQ]
      simp only at h7 ⊢
      split
      · exact h7
      · decide
  have z : (⟨#[]⟩ : ByteArray).size ≤ maxLen := by decide
  unfold bareI
  repeat' split
  · exact ⟨z, z, z⟩
  · exact ⟨z, z, hq⟩
  · exact ⟨h3, h4, z⟩
  · exact ⟨z, h4, z⟩
  · exact ⟨z, z, z⟩
  · exact ⟨z, z, z⟩
theorem AU.pes {O nm es} {a : Option Addr} {c : Nat} {w : World} (h : AU O nm (.slice a es.length c) es w) : PEs (fun b => O < b ∧ b < w.heap.size) w a c es := by
  refine ⟨?_, ?_, fun e he => (h.ok e he).stay (fun _ _ => rfl) (fun b hb => ⟨hb.1, hb.2.1⟩)⟩
  · obtain ⟨va, vc, e, hvc⟩ := own_slice h.row
    simp at e
    rw [e.2]; exact hvc
  · by_cases h0 : es = []
    · exact Or.inl h0
    · obtain ⟨g, vc, e, hvc, hQg, hg, ho, hc⟩ := own_at h.row (List.length_pos_iff.2 h0)
      simp at e
      refine Or.inr ⟨g, e.1, ⟨?_, hg⟩, hc⟩
      have : g ≠ O := fun e2 => h.sep (by rw [ho, e2])
      omega
set_option maxRecDepth 100000 in
set_option maxHeartbeats 25600000 in
theorem refBareU_any (nm : ByteArray) (PP : List Pro) (pa : Option Addr) (n pc : Nat) (w : World) (hn : n = PP.length) (hl : PL w.heap.size w pa PP) (hpc : n ≤ pc) (hn5 : n ≤ 500) (hc6 : ∀ P ∈ PP, P.code.length ≤ 6000)
    (hx : ∀ P ∈ PP, ∀ x ∈ P.code, (1 ≤ x.op ∧ x.op ≤ 15) ∧ (x.op = 3 → smQ x.quote ∧ stQ x.quote)) :
    Calls Tryz.prog 16 #[.agg #[.string nm, .slice pa n pc]] w (ToldBr nm PP w) := by
  have b1 := (Below.refl w.heap.size w).alloc (Nat.le_refl _) (.cells #[.string nm, .slice pa n pc] 24)
  have s1 : (w.alloc (.cells #[.string nm, .slice pa n pc] 24)).heap.size = w.heap.size + 1 := by simp
  have a1 := World.alloc_heap_new w (.cells #[.string nm, .slice pa n pc] 24)
  have b2 := b1.alloc (by rw [s1]; omega) (.cells #[.string ⟨#[]⟩, .slice none 0 0] 24)
  have s2 : ((w.alloc (.cells #[.string nm, .slice pa n pc] 24)).alloc (.cells #[.string ⟨#[]⟩, .slice none 0 0] 24)).heap.size = w.heap.size + 2 := by simp
  have a2 := World.alloc_heap_new (w.alloc (.cells #[.string nm, .slice pa n pc] 24)) (.cells #[.string ⟨#[]⟩, .slice none 0 0] 24)
  rw [s1] at a2
  have a1' := (Below.heap_alloc (w.alloc (.cells #[.string nm, .slice pa n pc] 24)) (.cells #[.string ⟨#[]⟩, .slice none 0 0] 24) w.heap.size (by rw [s1]; omega)).trans a1
  have b3 := b2.alloc (by rw [s2]; omega) (.cells #[.string nm, .slice none 0 0] 24)
  have AU0 := AU.start ((w.alloc (.cells #[.string nm, .slice pa n pc] 24)).alloc (.cells #[.string ⟨#[]⟩, .slice none 0 0] 24)) nm
  rw [s2] at AU0
  have a3 := (Below.heap_alloc ((w.alloc (.cells #[.string nm, .slice pa n pc] 24)).alloc (.cells #[.string ⟨#[]⟩, .slice none 0 0] 24)) (.cells #[.string nm, .slice none 0 0] 24) w.heap.size (by rw [s2]; omega)).trans a1'
  have a4 := (Below.heap_alloc ((w.alloc (.cells #[.string nm, .slice pa n pc] 24)).alloc (.cells #[.string ⟨#[]⟩, .slice none 0 0] 24)) (.cells #[.string nm, .slice none 0 0] 24) (w.heap.size + 1) (by rw [s2]; omega)).trans a2
  have HBV := hidd b3
  have HU := hidd a3
  have HZ := hidd a4
  have HA0 := hidd AU0
  have HN := hidd hn
  have HPL := hidd hl
  have HC6 := hidd hc6
  have HXX := hidd hx
  have u0 : ((w.alloc (.cells #[.string nm, .slice pa n pc] 24)).alloc (.cells #[.string ⟨#[]⟩, .slice none 0 0] 24)).cell? ⟨w.heap.size, 0, none⟩ = some (.string nm) := (cellO a1').trans rfl
  clear b1 s1 a1 b2 s2 a2 a1' b3 AU0 a3 a4 hn hl hc6 hx
  go_enter Tryz.func16, Tryz.ntmps16
  go_upto_region 2 with fail
  clear u0
  generalize ((w.alloc (.cells #[.string nm, .slice pa n pc] 24)).alloc (.cells #[.string ⟨#[]⟩, .slice none 0 0] 24)).alloc (.cells #[.string nm, .slice none 0 0] 24) = V at HBV HU HZ HA0 ⊢
  obtain ⟨N, hN⟩ : ∃ N, N = w.heap.size := ⟨_, rfl⟩
  try rw [← hN]
  obtain ⟨R, hR⟩ : ∃ v, v = N + 1 := ⟨_, rfl⟩
  obtain ⟨O, hO⟩ : ∃ v, v = N + 1 + 1 := ⟨_, rfl⟩
  rw [← hO, ← hR]
  have HNN := hidd hN
  have HRR := hidd (show R = w.heap.size + 1 by omega)
  have HOO := hidd (show O = w.heap.size + 2 by omega)
  rw [← hN] at HU
  rw [← HRR.out] at HZ
  rw [← HOO.out] at HA0
  clear hN hR hO
  have u1 : V.cell? ⟨N, 1, none⟩ = some (.slice pa n pc) := (cellO HU.out).trans rfl
  go_wp2_with fail
  clear u1
  go_loopw [16] (fun i wz => ∃ (p : Nat) (v : Value) (ps : List PE), p ≤ n ∧ i = .int .i64 p ∧ Hid (Below O V wz ∧ AU O nm v ps wz ∧ ps.map PE.pro = (PP.take p).map bareP)) (fun i _ => n - (intOf i).toNat)
  case atStart => exact ⟨0, _, [], Nat.zero_le _, rfl, Below.refl _ _, HA0.out, by simp⟩
  case round =>
  clear HA0
  obtain ⟨p, pv, ps2, hp, rfl, HP⟩ := hrel
  by_cases hpp : p < n
  · obtain ⟨P, hP⟩ : ∃ P, PP[p]? = some P := ⟨_, List.getElem?_eq_getElem (by rw [← HN.out]; exact hpp)⟩
    have HPP := hidd hP
    obtain ⟨pb, po, rfl, hpb, hallp⟩ := HPL.out.at hP
    obtain ⟨ca, cc, s0, s1, hcc, hcl⟩ := hallp p _ hP
    have HBW0 := hidd (HBV.out.trans (HP.out.1.mono (by rw [HOO.out]; omega)))
    have s0' := (HBW0.out.cell (p := ⟨pb, po + p * 2, none⟩) hpb).trans s0
    have s1' := (HBW0.out.cell (p := ⟨pb, po + p * 2 + 1, none⟩) hpb).trans s1
    obtain ⟨cn, hcn⟩ : ∃ c, c = P.code.length := ⟨_, rfl⟩
    rw [← hcn] at s1' hcc
    have HCN := hidd hcn
    have HCL := hidd hcl
    have hc6 : cn ≤ 6000 := by rw [hcn]; exact HC6.out P (List.mem_of_getElem? hP)
    have HIX := hidd (fun x hx => HXX.out P (List.mem_of_getElem? hP) x hx)
    obtain ⟨pva, pvc, rfl, hpvc⟩ := own_slice HP.out.2.1.row
    have bx := (Below.refl wr.heap.size wr).alloc (Nat.le_refl _) (.cells #[.int .i64 P.args, .slice ca cn cc] 47)
    have A6 := hidd (HP.out.2.1.below bx)
    have B6 := hidd (HP.out.1.trans (bx.mono (Nat.le_of_lt HP.out.2.1.lt)))
    have NB := World.alloc_heap_new wr (.cells #[.int .i64 P.args, .slice ca cn cc] 47)
    have HPE := hidd HP.out.2.2
    have hp2 : ps2.length ≤ 30000 := by
      have h1 := congrArg List.length HP.out.2.2
      simp at h1
      omega
    have HPB := hidd NB
    clear hP hallp s0 s1 hcl hcn bx NB HP HBW0
    go_upto_region 5 with fail
    clear s0' s1'
    generalize wr.alloc (.cells #[.int .i64 P.args, .slice ca cn cc] 47) = V6 at A6 B6 HPB ⊢
    obtain ⟨vb, hvb⟩ : ∃ u, u = wr.heap.size := ⟨_, rfl⟩
    rw [← hvb] at HPB ⊢
    clear hvb
    have q0 : V6.cell? ⟨vb, 0, none⟩ = some (.int .i64 P.args) := (cellO HPB.out).trans rfl
    have tq := (Below.refl V6.heap.size V6).alloc (Nat.le_refl _) (.cells #[.int .i64 P.args, .slice none 0 0] 47)
    have AQ0 := hidd (AQ.start V6 P.args)
    have HB6 := hidd tq
    have q1 : (V6.alloc (.cells #[.int .i64 P.args, .slice none 0 0] 47)).cell? ⟨vb, 1, none⟩ = some (.slice ca cn cc) := (tq.cell (p := ⟨vb, 1, none⟩) (Array.getElem?_eq_some_iff.1 HPB.out).1).trans ((cellO HPB.out).trans rfl)
    clear tq
    go_upto_region 6 with fail
    clear q0
    generalize V6.alloc (.cells #[.int .i64 P.args, .slice none 0 0] 47) = V7 at AQ0 HB6 q1 ⊢
    obtain ⟨Q, hQ⟩ : ∃ v, v = V6.heap.size := ⟨_, rfl⟩
    have HQ := hidd hQ
    rw [← hQ] at AQ0 HB6 ⊢
    clear hQ
    go_wp2_with fail
    clear q1
    go_loopw [26] (fun i wz => ∃ (k : Nat) (v : Value) (es : List IE), k ≤ cn ∧ i = .int .i64 k ∧ Hid (Below Q V6 wz ∧ AQ Q P.args v es wz ∧ es.map IE.i = (P.code.take k).map bareI)) (fun i _ => cn - (intOf i).toNat)
    case atStart => exact ⟨0, _, [], Nat.zero_le _, rfl, HB6.out, AQ0.out, by simp⟩
    case round =>
    clear AQ0 HB6
    obtain ⟨k, v, es, hk, rfl, HK⟩ := hrel
    by_cases hkl : k < cn
    · obtain ⟨x, hx⟩ : ∃ x, P.code[k]? = some x := ⟨_, List.getElem?_eq_getElem (by rw [← HCN.out]; exact hkl)⟩
      have HXR := hidd (HIX.out x (List.mem_of_getElem? hx))
      obtain ⟨ib, io, rfl, hib, hins⟩ : ∃ b o, ca = some ⟨b, o, none⟩ ∧ b < w.heap.size ∧ ∀ i x, P.code[i]? = some x → ∃ qa qc, IL w.heap.size w b (o + i * 11) x qa qc := by
        rcases HCL.out with h | h
        · rw [h] at hx; simp at hx
        · exact h
      obtain ⟨xa, xc, hil⟩ := hins k x hx
      have b06 := HBV.out.trans (B6.out.mono (by rw [HOO.out]; omega))
      have bw0 := b06.trans (HK.out.1.mono (by rw [HQ.out]; exact b06.size))
      have HBW := hidd bw0
      have hilz := hil.below hib bw0
      have a0 := hilz.c0
      have a1 := hilz.c1
      have a2 := hilz.c2
      have a3 := hilz.c3
      have a4 := hilz.c4
      have a5 := hilz.c5
      have a6 := hilz.c6
      have a7 := hilz.c7
      have a8 := hilz.c8
      have a9 := hilz.c9
      have a10 := hilz.c10
      have HIL := hidd hil
      have b1 := (Below.refl wr.heap.size wr).alloc (Nat.le_refl _) (.cells #[.int .i64 x.op, .int .i64 x.a, .int .i64 x.n, .string x.lib, .string x.own, .int .i64 x.quote.kind, .int .i64 x.quote.n, .string x.quote.name, .int .i64 x.quote.stamp, .int .i64 x.quote.lib, .slice xa x.quote.kids.length xc] 52)
      have XBX := hidd (World.alloc_heap_new wr (.cells #[.int .i64 x.op, .int .i64 x.a, .int .i64 x.n, .string x.lib, .string x.own, .int .i64 x.quote.kind, .int .i64 x.quote.n, .string x.quote.name, .int .i64 x.quote.stamp, .int .i64 x.quote.lib, .slice xa x.quote.kids.length xc] 52))
      have HB1 := hidd b1
      have htk : P.code.take (k + 1) = P.code.take k ++ [x] := by rw [List.take_add_one, hx]; rfl
      have HTK := hidd htk
      clear hx hil hilz hins b1 htk bw0 b06
      go_upto_region 9 with fail
      clear a0 a1 a2 a3 a4 a5 a6 a7 a8 a9 a10
      generalize wr.alloc (.cells #[.int .i64 x.op, .int .i64 x.a, .int .i64 x.n, .string x.lib, .string x.own, .int .i64 x.quote.kind, .int .i64 x.quote.n, .string x.quote.name, .int .i64 x.quote.stamp, .int .i64 x.quote.lib, .slice xa x.quote.kids.length xc] 52) = V8 at XBX HB1 ⊢
      obtain ⟨xb, hxb⟩ : ∃ u, u = wr.heap.size := ⟨_, rfl⟩
      have HXB := hidd hxb
      rw [← hxb] at XBX ⊢
      clear hxb
      have z0 : V8.cell? ⟨xb, 0, none⟩ = some (.int .i64 x.op) := (cellO XBX.out).trans rfl
      have b2 := (Below.refl V8.heap.size V8).alloc (Nat.le_refl _) (.cells #[.int .i64 x.op, .int .i64 0, .int .i64 0, .string ⟨#[]⟩, .string ⟨#[]⟩, .int .i64 0, .int .i64 0, .string ⟨#[]⟩, .int .i64 0, .int .i64 0, .slice none 0 0] 52)
      have YBX := hidd (World.alloc_heap_new V8 (.cells #[.int .i64 x.op, .int .i64 0, .int .i64 0, .string ⟨#[]⟩, .string ⟨#[]⟩, .int .i64 0, .int .i64 0, .string ⟨#[]⟩, .int .i64 0, .int .i64 0, .slice none 0 0] 52))
      have HB2 := hidd b2
      clear b2
      go_upto_region 10 with fail
      clear z0
      generalize V8.alloc (.cells #[.int .i64 x.op, .int .i64 0, .int .i64 0, .string ⟨#[]⟩, .string ⟨#[]⟩, .int .i64 0, .int .i64 0, .string ⟨#[]⟩, .int .i64 0, .int .i64 0, .slice none 0 0] 52) = V9 at YBX HB2 ⊢
      obtain ⟨Y, hY⟩ : ∃ u, u = V8.heap.size := ⟨_, rfl⟩
      have HYE := hidd hY
      rw [← hY] at YBX HB2 ⊢
      clear hY
      have HX9 := hidd ((HB2.out.block _ (by rw [HYE.out]; exact (Array.getElem?_eq_some_iff.1 XBX.out).1)).trans XBX.out)
      obtain ⟨X, hX⟩ : ∃ X, X = bareI x := ⟨_, rfl⟩
      have HX := hidd hX
      clear hX
      obtain ⟨xp, hxp⟩ : ∃ v, v = x.op := ⟨_, rfl⟩
      have HXP := hidd hxp
      have z0 : V9.cell? ⟨xb, 0, none⟩ = some (.int .i64 xp) := by rw [hxp]; exact (cellO HX9.out).trans rfl
      have KD := hidd (fun w => Kind_any xp w)
      clear hxp
      go_wp2_with fail
      refine (KD.out _).mono ?_
      rintro e W9 ⟨rfl, rfl⟩
      go_upto_block 4 with fail
      go_cut [] from 36 to 67 (fun wx => ∃ qa qc f, wx.heap[Y]? = some (.cells (ic X (.slice qa X.quote.kids.length qc)) 52 (0, 0)) ∧ Below Y W9 wx ∧ X.quote.kids.length ≤ qc ∧ Dc (fun b => Y < b ∧ b < wx.heap.size) wx f qa X.quote.kids)
      case first =>
        have hop : xp = 1 ∨ xp = 2 ∨ xp = 3 ∨ xp = 4 ∨ xp = 5 ∨ xp = 6 ∨ xp = 7 ∨ xp = 8 ∨ xp = 9 ∨ xp = 10 ∨ xp = 11 ∨ xp = 12 ∨ xp = 13 ∨ xp = 14 ∨ xp = 15 := by have h1 := HXR.out.1; rw [← HXP.out] at h1; omega
        clear z0
        rcases hop with rfl | rfl | rfl | rfl | rfl | rfl | rfl | rfl | rfl | rfl | rfl | rfl | rfl | rfl | rfl
        · have hX := HX.out
          unfold bareI at hX
          rw [← HXP.out] at hX
          simp [layW] at hX
          subst hX
          rw [show kindB 1 = 110 from rfl]
          have xq : W9.cell? ⟨xb, 2, none⟩ = some (.int .i64 x.n) := (cellO HX9.out).trans rfl
          have yq : W9.cell? ⟨Y, 2, none⟩ = some (.int .i64 0) := (cellO YBX.out).trans rfl
          have yz := looseO (q := 2) YBX.out
          have hc := heap_setCell_same W9 Y 2 _ 52 (.int .i64 x.n) YBX.out
          have END := hidd hc
          have BE := hidd ((Below.refl Y W9).setCell (p := ⟨Y, 2, none⟩) (Nat.le_refl _) (.int .i64 x.n))
          clear hc
          go_wp2_with fail
          go_meet
          case rel => exact ⟨none, 0, 0, by rw [END.out, HXP.out]; rfl, BE.out, Nat.le_refl _, Dc.nil _ _ _ _⟩
        · have hX := HX.out
          unfold bareI at hX
          rw [← HXP.out] at hX
          simp [layW] at hX
          subst hX
          rw [show kindB 2 = 110 from rfl]
          have xq : W9.cell? ⟨xb, 2, none⟩ = some (.int .i64 x.n) := (cellO HX9.out).trans rfl
          have yq : W9.cell? ⟨Y, 2, none⟩ = some (.int .i64 0) := (cellO YBX.out).trans rfl
          have yz := looseO (q := 2) YBX.out
          have hc := heap_setCell_same W9 Y 2 _ 52 (.int .i64 x.n) YBX.out
          have END := hidd hc
          have BE := hidd ((Below.refl Y W9).setCell (p := ⟨Y, 2, none⟩) (Nat.le_refl _) (.int .i64 x.n))
          clear hc
          go_wp2_with fail
          go_meet
          case rel => exact ⟨none, 0, 0, by rw [END.out, HXP.out]; rfl, BE.out, Nat.le_refl _, Dc.nil _ _ _ _⟩
        · have hX := HX.out
          unfold bareI at hX
          rw [← HXP.out] at hX
          simp [layW] at hX
          subst hX
          rw [show kindB 3 = 113 from rfl]
          have d5 : W9.cell? ⟨xb, 5, none⟩ = some (.int .i64 x.quote.kind) := (cellO HX9.out).trans rfl
          have d6 : W9.cell? ⟨xb, 6, none⟩ = some (.int .i64 x.quote.n) := (cellO HX9.out).trans rfl
          have d7 : W9.cell? ⟨xb, 7, none⟩ = some (.string x.quote.name) := (cellO HX9.out).trans rfl
          have d8 : W9.cell? ⟨xb, 8, none⟩ = some (.int .i64 x.quote.stamp) := (cellO HX9.out).trans rfl
          have d9 : W9.cell? ⟨xb, 9, none⟩ = some (.int .i64 x.quote.lib) := (cellO HX9.out).trans rfl
          have d10 : W9.cell? ⟨xb, 10, none⟩ = some (.slice xa x.quote.kids.length xc) := (cellO HX9.out).trans rfl
          have hwY : wr.heap.size ≤ Y := by rw [HYE.out]; exact HB1.out.size
          have b9 : Below wr.heap.size wr W9 := HB1.out.trans (HB2.out.mono hwY)
          have bw9 := HBW.out.trans (b9.mono HBW.out.size)
          obtain ⟨kf, hkf⟩ := HIL.out.lk
          have BR0 := RBare_any kf x.quote xa xc W9 (Dc.stay (fun k hk => bw9.block k hk) (fun k hk => Nat.lt_of_lt_of_le hk bw9.size) _ _ _ hkf) HIL.out.lq (HXR.out.2 HXP.out.symm).1 (HXR.out.2 HXP.out.symm).2
          unfold dv at BR0
          have BR := hidd BR0
          clear BR0 hkf bw9 b9 hwY
          go_wp2_with fail
          refine BR.out.mono ?_
          rintro e W1 ⟨s1, ra, rc, rf, rfl, hrc, hrd⟩
          obtain ⟨DQ, hDQ⟩ : ∃ d, d = bareQ x.quote := ⟨_, rfl⟩
          rw [← hDQ] at hrc hrd ⊢
          have HDQ := hidd hDQ
          clear hDQ
          unfold dv
          have LY := (Array.getElem?_eq_some_iff.1 YBX.out).1
          have YB1 := (s1.block _ LY).trans YBX.out
          have p5 : W1.cell? ⟨Y, 5, none⟩ = some (.int .i64 0) := (cellO YB1).trans rfl
          have p6 : W1.cell? ⟨Y, 6, none⟩ = some (.int .i64 0) := (cellO YB1).trans rfl
          have p7 : W1.cell? ⟨Y, 7, none⟩ = some (.string ⟨#[]⟩) := (cellO YB1).trans rfl
          have p8 : W1.cell? ⟨Y, 8, none⟩ = some (.int .i64 0) := (cellO YB1).trans rfl
          have p9 : W1.cell? ⟨Y, 9, none⟩ = some (.int .i64 0) := (cellO YB1).trans rfl
          have p10 : W1.cell? ⟨Y, 10, none⟩ = some (.slice none 0 0) := (cellO YB1).trans rfl
          have z5 := looseO (q := 5) YB1
          have z6 := looseO (q := 6) YB1
          have z7 := looseO (q := 7) YB1
          have z8 := looseO (q := 8) YB1
          have z9 := looseO (q := 9) YB1
          have z10 := looseO (q := 10) YB1
          have h5 := heap_setCell_same W1 Y 5 _ 52 (.int .i64 DQ.kind) YB1
          have h6 := heap_setCell_same _ Y 6 _ 52 (.int .i64 DQ.n) h5
          have h7 := heap_setCell_same _ Y 7 _ 52 (.string DQ.name) h6
          have h8 := heap_setCell_same _ Y 8 _ 52 (.int .i64 DQ.stamp) h7
          have h9 := heap_setCell_same _ Y 9 _ 52 (.int .i64 DQ.lib) h8
          have h10 := heap_setCell_same _ Y 10 _ 52 (.slice ra DQ.kids.length rc) h9
          simp only [List.setIfInBounds_toArray, List.set_cons_succ, List.set_cons_zero] at h10
          have END := hidd h10
          have BE := hidd ((((((((s1.mono (Nat.le_of_lt LY)).setCell (p := ⟨Y, 5, none⟩) (Nat.le_refl _) (.int .i64 DQ.kind)).setCell (p := ⟨Y, 6, none⟩) (Nat.le_refl _) (.int .i64 DQ.n)).setCell (p := ⟨Y, 7, none⟩) (Nat.le_refl _) (.string DQ.name)).setCell (p := ⟨Y, 8, none⟩) (Nat.le_refl _) (.int .i64 DQ.stamp)).setCell (p := ⟨Y, 9, none⟩) (Nat.le_refl _) (.int .i64 DQ.lib)).setCell (p := ⟨Y, 10, none⟩) (Nat.le_refl _) (.slice ra DQ.kids.length rc)))
          have HRC := hidd hrc
          have HRD := hidd hrd
          have HLY2 := hidd LY
          clear BR s1 hrc hrd h5 h6 h7 h8 h9 h10 YB1 LY d5 d6 d7 d8 d9 d10
          go_wp2_with fail
          go_meet
          case rel =>
            have hs : ∀ (U : World) (q : Nat) (v : Value) (k : Nat), k ≠ Y → (U.setCell ⟨Y, q, none⟩ v).heap[k]? = U.heap[k]? := fun U q v k hk => Below.heap_setCell _ _ _ _ hk
            rw [← HDQ.out]
            refine ⟨ra, rc, rf, ?_, BE.out, HRC.out, ?_⟩
            · rw [END.out, HXP.out]
              rfl
            · refine Dc.stay (fun k hk => ?_) (fun k hk => ⟨?_, ?_⟩) _ _ _ HRD.out
              · have hk1 : k ≠ Y := by have := hk.1; have := HLY2.out; omega
                rw [hs _ _ _ _ hk1, hs _ _ _ _ hk1, hs _ _ _ _ hk1, hs _ _ _ _ hk1, hs _ _ _ _ hk1, hs _ _ _ _ hk1]
              · have := hk.1; have := HLY2.out; omega
              · have h2 := hk.2
                simpa using h2
        · have hX := HX.out
          unfold bareI at hX
          rw [← HXP.out] at hX
          simp [layW] at hX
          subst hX
          rw [show kindB 4 = 108 from rfl]
          have xq : W9.cell? ⟨xb, 1, none⟩ = some (.int .i64 x.a) := (cellO HX9.out).trans rfl
          have yq : W9.cell? ⟨Y, 1, none⟩ = some (.int .i64 0) := (cellO YBX.out).trans rfl
          have yz := looseO (q := 1) YBX.out
          have hc := heap_setCell_same W9 Y 1 _ 52 (.int .i64 x.a) YBX.out
          have END := hidd hc
          have BE := hidd ((Below.refl Y W9).setCell (p := ⟨Y, 1, none⟩) (Nat.le_refl _) (.int .i64 x.a))
          clear hc
          go_wp2_with fail
          go_meet
          case rel => exact ⟨none, 0, 0, by rw [END.out, HXP.out]; rfl, BE.out, Nat.le_refl _, Dc.nil _ _ _ _⟩
        · have hX := HX.out
          unfold bareI at hX
          rw [← HXP.out] at hX
          simp [layW] at hX
          subst hX
          rw [show kindB 5 = 103 from rfl]
          have x3 : W9.cell? ⟨xb, 3, none⟩ = some (.string x.lib) := (cellO HX9.out).trans rfl
          have x4 : W9.cell? ⟨xb, 4, none⟩ = some (.string x.own) := (cellO HX9.out).trans rfl
          have y3 : W9.cell? ⟨Y, 3, none⟩ = some (.string ⟨#[]⟩) := (cellO YBX.out).trans rfl
          have y4 : W9.cell? ⟨Y, 4, none⟩ = some (.string ⟨#[]⟩) := (cellO YBX.out).trans rfl
          have yz : ∀ q, W9.frozen? ⟨Y, q, none⟩ = false := fun q => looseO YBX.out
          have h34 := heap_setCell_same _ Y 4 _ 52 (.string x.own) (heap_setCell_same W9 Y 3 _ 52 (.string x.lib) YBX.out)
          have h43 := heap_setCell_same _ Y 3 _ 52 (.string x.lib) (heap_setCell_same W9 Y 4 _ 52 (.string x.own) YBX.out)
          simp only [List.setIfInBounds_toArray, List.set_cons_succ, List.set_cons_zero] at h34 h43
          have G34 := hidd (And.intro h34 (Below.drew (((Below.refl Y W9).setCell (p := ⟨Y, 3, none⟩) (Nat.le_refl _) (.string x.lib)).setCell (p := ⟨Y, 4, none⟩) (Nat.le_refl _) (.string x.own))))
          have G43 := hidd (And.intro h43 (Below.drew (((Below.refl Y W9).setCell (p := ⟨Y, 4, none⟩) (Nat.le_refl _) (.string x.own)).setCell (p := ⟨Y, 3, none⟩) (Nat.le_refl _) (.string x.lib))))
          have hxY : xb ≠ Y := by have := (Array.getElem?_eq_some_iff.1 XBX.out).1; rw [HYE.out]; omega
          clear h34 h43
          go_upto_region 16 with fail
          go_region
          all_goals
            go_wp2_with fail
            go_meet
            case rel =>
              first
                | exact ⟨none, 0, 0, (show _ = _ from G34.out.1.trans (by rw [HXP.out]; rfl)), G34.out.2, Nat.le_refl _, Dc.nil _ _ _ _⟩
                | exact ⟨none, 0, 0, (show _ = _ from G43.out.1.trans (by rw [HXP.out]; rfl)), G43.out.2, Nat.le_refl _, Dc.nil _ _ _ _⟩
        · have hX := HX.out
          unfold bareI at hX
          rw [← HXP.out] at hX
          simp [layW] at hX
          subst hX
          rw [show kindB 6 = 112 from rfl]
          have xq : W9.cell? ⟨xb, 4, none⟩ = some (.string x.own) := (cellO HX9.out).trans rfl
          have yq : W9.cell? ⟨Y, 4, none⟩ = some (.string ⟨#[]⟩) := (cellO YBX.out).trans rfl
          have yz := looseO (q := 4) YBX.out
          have hc := heap_setCell_same W9 Y 4 _ 52 (.string x.own) YBX.out
          have END := hidd hc
          have BE := hidd ((Below.refl Y W9).setCell (p := ⟨Y, 4, none⟩) (Nat.le_refl _) (.string x.own))
          clear hc
          go_wp2_with fail
          go_meet
          case rel => exact ⟨none, 0, 0, by rw [END.out, HXP.out]; rfl, BE.out, Nat.le_refl _, Dc.nil _ _ _ _⟩
        · have hX := HX.out
          unfold bareI at hX
          rw [← HXP.out] at hX
          simp [layW] at hX
          subst hX
          rw [show kindB 7 = 99 from rfl]
          have xq : W9.cell? ⟨xb, 1, none⟩ = some (.int .i64 x.a) := (cellO HX9.out).trans rfl
          have yq : W9.cell? ⟨Y, 1, none⟩ = some (.int .i64 0) := (cellO YBX.out).trans rfl
          have yz := looseO (q := 1) YBX.out
          have hc := heap_setCell_same W9 Y 1 _ 52 (.int .i64 x.a) YBX.out
          have END := hidd hc
          have BE := hidd ((Below.refl Y W9).setCell (p := ⟨Y, 1, none⟩) (Nat.le_refl _) (.int .i64 x.a))
          clear hc
          go_wp2_with fail
          go_meet
          case rel => exact ⟨none, 0, 0, by rw [END.out, HXP.out]; rfl, BE.out, Nat.le_refl _, Dc.nil _ _ _ _⟩
        · have hX := HX.out
          unfold bareI at hX
          rw [← HXP.out] at hX
          simp [layW] at hX
          subst hX
          rw [show kindB 8 = 97 from rfl]
          have xq : W9.cell? ⟨xb, 1, none⟩ = some (.int .i64 x.a) := (cellO HX9.out).trans rfl
          have yq : W9.cell? ⟨Y, 1, none⟩ = some (.int .i64 0) := (cellO YBX.out).trans rfl
          have yz := looseO (q := 1) YBX.out
          have hc := heap_setCell_same W9 Y 1 _ 52 (.int .i64 x.a) YBX.out
          have END := hidd hc
          have BE := hidd ((Below.refl Y W9).setCell (p := ⟨Y, 1, none⟩) (Nat.le_refl _) (.int .i64 x.a))
          clear hc
          go_wp2_with fail
          go_meet
          case rel => exact ⟨none, 0, 0, by rw [END.out, HXP.out]; rfl, BE.out, Nat.le_refl _, Dc.nil _ _ _ _⟩
        · have hX := HX.out
          unfold bareI at hX
          rw [← HXP.out] at hX
          simp [layW] at hX
          subst hX
          rw [show kindB 9 = 106 from rfl]
          have xq : W9.cell? ⟨xb, 1, none⟩ = some (.int .i64 x.a) := (cellO HX9.out).trans rfl
          have yq : W9.cell? ⟨Y, 1, none⟩ = some (.int .i64 0) := (cellO YBX.out).trans rfl
          have yz := looseO (q := 1) YBX.out
          have hc := heap_setCell_same W9 Y 1 _ 52 (.int .i64 x.a) YBX.out
          have END := hidd hc
          have BE := hidd ((Below.refl Y W9).setCell (p := ⟨Y, 1, none⟩) (Nat.le_refl _) (.int .i64 x.a))
          clear hc
          go_wp2_with fail
          go_meet
          case rel => exact ⟨none, 0, 0, by rw [END.out, HXP.out]; rfl, BE.out, Nat.le_refl _, Dc.nil _ _ _ _⟩
        · have hX := HX.out
          unfold bareI at hX
          rw [← HXP.out] at hX
          simp [layW] at hX
          subst hX
          rw [show kindB 10 = 106 from rfl]
          have xq : W9.cell? ⟨xb, 1, none⟩ = some (.int .i64 x.a) := (cellO HX9.out).trans rfl
          have yq : W9.cell? ⟨Y, 1, none⟩ = some (.int .i64 0) := (cellO YBX.out).trans rfl
          have yz := looseO (q := 1) YBX.out
          have hc := heap_setCell_same W9 Y 1 _ 52 (.int .i64 x.a) YBX.out
          have END := hidd hc
          have BE := hidd ((Below.refl Y W9).setCell (p := ⟨Y, 1, none⟩) (Nat.le_refl _) (.int .i64 x.a))
          clear hc
          go_wp2_with fail
          go_meet
          case rel => exact ⟨none, 0, 0, by rw [END.out, HXP.out]; rfl, BE.out, Nat.le_refl _, Dc.nil _ _ _ _⟩
        · have hX := HX.out
          unfold bareI at hX
          rw [← HXP.out] at hX
          simp [layW] at hX
          subst hX
          rw [show kindB 11 = 108 from rfl]
          have xq : W9.cell? ⟨xb, 1, none⟩ = some (.int .i64 x.a) := (cellO HX9.out).trans rfl
          have yq : W9.cell? ⟨Y, 1, none⟩ = some (.int .i64 0) := (cellO YBX.out).trans rfl
          have yz := looseO (q := 1) YBX.out
          have hc := heap_setCell_same W9 Y 1 _ 52 (.int .i64 x.a) YBX.out
          have END := hidd hc
          have BE := hidd ((Below.refl Y W9).setCell (p := ⟨Y, 1, none⟩) (Nat.le_refl _) (.int .i64 x.a))
          clear hc
          go_wp2_with fail
          go_meet
          case rel => exact ⟨none, 0, 0, by rw [END.out, HXP.out]; rfl, BE.out, Nat.le_refl _, Dc.nil _ _ _ _⟩
        · have hX := HX.out
          unfold bareI at hX
          rw [← HXP.out] at hX
          simp [layW] at hX
          subst hX
          rw [show kindB 12 = 103 from rfl]
          have x3 : W9.cell? ⟨xb, 3, none⟩ = some (.string x.lib) := (cellO HX9.out).trans rfl
          have x4 : W9.cell? ⟨xb, 4, none⟩ = some (.string x.own) := (cellO HX9.out).trans rfl
          have y3 : W9.cell? ⟨Y, 3, none⟩ = some (.string ⟨#[]⟩) := (cellO YBX.out).trans rfl
          have y4 : W9.cell? ⟨Y, 4, none⟩ = some (.string ⟨#[]⟩) := (cellO YBX.out).trans rfl
          have yz : ∀ q, W9.frozen? ⟨Y, q, none⟩ = false := fun q => looseO YBX.out
          have h34 := heap_setCell_same _ Y 4 _ 52 (.string x.own) (heap_setCell_same W9 Y 3 _ 52 (.string x.lib) YBX.out)
          have h43 := heap_setCell_same _ Y 3 _ 52 (.string x.lib) (heap_setCell_same W9 Y 4 _ 52 (.string x.own) YBX.out)
          simp only [List.setIfInBounds_toArray, List.set_cons_succ, List.set_cons_zero] at h34 h43
          have G34 := hidd (And.intro h34 (Below.drew (((Below.refl Y W9).setCell (p := ⟨Y, 3, none⟩) (Nat.le_refl _) (.string x.lib)).setCell (p := ⟨Y, 4, none⟩) (Nat.le_refl _) (.string x.own))))
          have G43 := hidd (And.intro h43 (Below.drew (((Below.refl Y W9).setCell (p := ⟨Y, 4, none⟩) (Nat.le_refl _) (.string x.own)).setCell (p := ⟨Y, 3, none⟩) (Nat.le_refl _) (.string x.lib))))
          have hxY : xb ≠ Y := by have := (Array.getElem?_eq_some_iff.1 XBX.out).1; rw [HYE.out]; omega
          clear h34 h43
          go_upto_region 16 with fail
          go_region
          all_goals
            go_wp2_with fail
            go_meet
            case rel =>
              first
                | exact ⟨none, 0, 0, (show _ = _ from G34.out.1.trans (by rw [HXP.out]; rfl)), G34.out.2, Nat.le_refl _, Dc.nil _ _ _ _⟩
                | exact ⟨none, 0, 0, (show _ = _ from G43.out.1.trans (by rw [HXP.out]; rfl)), G43.out.2, Nat.le_refl _, Dc.nil _ _ _ _⟩
        · have hX := HX.out
          unfold bareI at hX
          rw [← HXP.out] at hX
          simp [layW] at hX
          subst hX
          rw [show kindB 13 = 103 from rfl]
          have x3 : W9.cell? ⟨xb, 3, none⟩ = some (.string x.lib) := (cellO HX9.out).trans rfl
          have x4 : W9.cell? ⟨xb, 4, none⟩ = some (.string x.own) := (cellO HX9.out).trans rfl
          have y3 : W9.cell? ⟨Y, 3, none⟩ = some (.string ⟨#[]⟩) := (cellO YBX.out).trans rfl
          have y4 : W9.cell? ⟨Y, 4, none⟩ = some (.string ⟨#[]⟩) := (cellO YBX.out).trans rfl
          have yz : ∀ q, W9.frozen? ⟨Y, q, none⟩ = false := fun q => looseO YBX.out
          have h34 := heap_setCell_same _ Y 4 _ 52 (.string x.own) (heap_setCell_same W9 Y 3 _ 52 (.string x.lib) YBX.out)
          have h43 := heap_setCell_same _ Y 3 _ 52 (.string x.lib) (heap_setCell_same W9 Y 4 _ 52 (.string x.own) YBX.out)
          simp only [List.setIfInBounds_toArray, List.set_cons_succ, List.set_cons_zero] at h34 h43
          have G34 := hidd (And.intro h34 (Below.drew (((Below.refl Y W9).setCell (p := ⟨Y, 3, none⟩) (Nat.le_refl _) (.string x.lib)).setCell (p := ⟨Y, 4, none⟩) (Nat.le_refl _) (.string x.own))))
          have G43 := hidd (And.intro h43 (Below.drew (((Below.refl Y W9).setCell (p := ⟨Y, 4, none⟩) (Nat.le_refl _) (.string x.own)).setCell (p := ⟨Y, 3, none⟩) (Nat.le_refl _) (.string x.lib))))
          have hxY : xb ≠ Y := by have := (Array.getElem?_eq_some_iff.1 XBX.out).1; rw [HYE.out]; omega
          clear h34 h43
          go_upto_region 16 with fail
          go_region
          all_goals
            go_wp2_with fail
            go_meet
            case rel =>
              first
                | exact ⟨none, 0, 0, (show _ = _ from G34.out.1.trans (by rw [HXP.out]; rfl)), G34.out.2, Nat.le_refl _, Dc.nil _ _ _ _⟩
                | exact ⟨none, 0, 0, (show _ = _ from G43.out.1.trans (by rw [HXP.out]; rfl)), G43.out.2, Nat.le_refl _, Dc.nil _ _ _ _⟩
        · have hX := HX.out
          unfold bareI at hX
          rw [← HXP.out] at hX
          simp [layW] at hX
          subst hX
          rw [show kindB 14 = 45 from rfl]
          go_wp2_with fail
          go_meet
          case rel => exact ⟨none, 0, 0, by rw [YBX.out, HXP.out]; rfl, Below.refl _ _, Nat.le_refl _, Dc.nil _ _ _ _⟩
        · have hX := HX.out
          unfold bareI at hX
          rw [← HXP.out] at hX
          simp [layW] at hX
          subst hX
          rw [show kindB 15 = 45 from rfl]
          go_wp2_with fail
          go_meet
          case rel => exact ⟨none, 0, 0, by rw [YBX.out, HXP.out]; rfl, Below.refl _ _, Nat.le_refl _, Dc.nil _ _ _ _⟩
      case rest =>
      obtain ⟨qa, qc, f, hYX, hbY, hqc, hdc⟩ := hcut
      have hwY : wr.heap.size ≤ Y := by rw [HYE.out]; exact HB1.out.size
      have bwr : Below wr.heap.size wr wc := HB1.out.trans ((HB2.out.trans hbY).mono hwY)
      have aqc := HK.out.2.1.below bwr
      obtain ⟨cva, cvc, rfl, hcvc⟩ := own_slice aqc.row
      have tb := (Below.refl wc.heap.size wc).alloc (Nat.le_refl _) (.cells (ic X (.slice qa X.quote.kids.length qc)) 52)
      have aqt := aqc.below tb
      have hel : es.length = k := by
        have h1 := congrArg List.length HK.out.2.2
        simp at h1
        rw [h1, ← HCN.out]; omega
      have hsm := bareI_small (x := x) HIL.out.l3 HIL.out.l4 HIL.out.l7
      rw [← HX.out] at hsm
      have EOK := hidd (show IE.Ok (fun b => Q < b ∧ b < (wc.alloc (.cells (ic X (.slice qa X.quote.kids.length qc)) 52)).heap.size ∧ (Value.slice cva es.length cvc).ownBlock ≠ some b) (wc.alloc (.cells (ic X (.slice qa X.quote.kids.length qc)) 52)) ⟨X, qa, qc⟩ from ⟨hsm.1, hsm.2.1, hsm.2.2, hqc, f, Dc.stay (fun b hb => tb.block b hb.2) (fun b hb => ⟨by have := HK.out.2.1.lt; omega, Nat.lt_of_lt_of_le hb.2 tb.size, fun e => by have := (HK.out.2.1.row.lt b e).2; omega⟩) f _ _ hdc⟩)
      have AQT := hidd aqt
      have hBQ : Below Q V6 (wc.alloc (.cells (ic X (.slice qa X.quote.kids.length qc)) 52)) := by
        have hq : Q ≤ wr.heap.size := Nat.le_of_lt HK.out.2.1.lt
        exact (HK.out.1.trans (bwr.mono hq)).trans (tb.mono (Nat.le_trans hq bwr.size))
      have HBQ := hidd hBQ
      have HME : Hid ((es ++ [IE.mk X qa qc]).map IE.i = (P.code.take (k + 1)).map bareI) := by
        show (es ++ [IE.mk X qa qc]).map IE.i = (P.code.take (k + 1)).map bareI
        rw [HTK.out, List.map_append, List.map_append, HK.out.2.2, HX.out]
        simp
      have z1 : wc.cell? ⟨Q, 1, none⟩ = some (.slice cva es.length cvc) := (cellO aqc.box).trans rfl
      unfold ic at hYX EOK AQT HBQ
      have w0 : wc.cell? ⟨Y, 0, none⟩ = some (.int .i64 X.op) := (cellO hYX).trans rfl
      have w1 : wc.cell? ⟨Y, 1, none⟩ = some (.int .i64 X.a) := (cellO hYX).trans rfl
      have w2 : wc.cell? ⟨Y, 2, none⟩ = some (.int .i64 X.n) := (cellO hYX).trans rfl
      have w3 : wc.cell? ⟨Y, 3, none⟩ = some (.string X.lib) := (cellO hYX).trans rfl
      have w4 : wc.cell? ⟨Y, 4, none⟩ = some (.string X.own) := (cellO hYX).trans rfl
      have w5 : wc.cell? ⟨Y, 5, none⟩ = some (.int .i64 X.quote.kind) := (cellO hYX).trans rfl
      have w6 : wc.cell? ⟨Y, 6, none⟩ = some (.int .i64 X.quote.n) := (cellO hYX).trans rfl
      have w7 : wc.cell? ⟨Y, 7, none⟩ = some (.string X.quote.name) := (cellO hYX).trans rfl
      have w8 : wc.cell? ⟨Y, 8, none⟩ = some (.int .i64 X.quote.stamp) := (cellO hYX).trans rfl
      have w9 : wc.cell? ⟨Y, 9, none⟩ = some (.int .i64 X.quote.lib) := (cellO hYX).trans rfl
      have w10 : wc.cell? ⟨Y, 10, none⟩ = some (.slice qa X.quote.kids.length qc) := (cellO hYX).trans rfl
      obtain ⟨i0, hinf, hz0, hz1, hz2⟩ := info_parts infoIns
      obtain ⟨el, hele⟩ : ∃ v, v = es.length := ⟨_, rfl⟩
      have HEL := hidd hele
      have hel6 : el ≤ 6000 := by rw [hele, hel]; omega
      have OWN : Hid ((wc.alloc (.cells #[.int .i64 X.op, .int .i64 X.a, .int .i64 X.n, .string X.lib, .string X.own, .int .i64 X.quote.kind, .int .i64 X.quote.n, .string X.quote.name, .int .i64 X.quote.stamp, .int .i64 X.quote.lib, .slice qa X.quote.kids.length qc] 52)).ownsRow Q 52 11 (.slice cva el cvc) el (flatI es)) := by
        have := AQT.out.row
        rw [← hele] at this
        exact this
      have SRC := hidd (alloc1S wc #[.int .i64 X.op, .int .i64 X.a, .int .i64 X.n, .string X.lib, .string X.own, .int .i64 X.quote.kind, .int .i64 X.quote.n, .string X.quote.name, .int .i64 X.quote.stamp, .int .i64 X.quote.lib, .slice qa X.quote.kids.length qc] 52 (IE.cells ⟨X, qa, qc⟩) rfl)
      have BAS : Q ≤ (wc.alloc (.cells #[.int .i64 X.op, .int .i64 X.a, .int .i64 X.n, .string X.lib, .string X.own, .int .i64 X.quote.kind, .int .i64 X.quote.n, .string X.quote.name, .int .i64 X.quote.stamp, .int .i64 X.quote.lib, .slice qa X.quote.kids.length qc] 52)).heap.size := Nat.le_of_lt AQT.out.lt
      rw [← hele] at z1
      clear hel hele aqc aqt tb hBQ hsm hdc hqc bwr hwY hbY hYX HK HB1 HB2 YBX XBX HX9
      go_wp2_with (at_builtin; refine wpList_rowS rfl _ _ 45 rfl Q 52 i0 _ 11 128 Tryz.underlying45 hinf hz0 hz1 hz2 rfl (by decide) (.slice cva el cvc) el (flatI es) rfl OWN.out (some ⟨wc.heap.size, 0, none⟩) 1 1 (IE.cells ⟨X, qa, qc⟩) rfl rfl (Or.inr ⟨_, 0, rfl, SRC.out⟩) (by simp [IE.cells, ic, Value.oneCell']) (by unfold maxLen; omega) (by omega) BAS ?_)
      intro v9 W10 hown9 hg9 hw9
      rw [HEL.out] at hown9 hg9 hw9
      obtain ⟨aq9, bq9, bx9⟩ := AQT.out.push ⟨X, qa, qc⟩ EOK.out hown9 hg9 (by simpa using hw9)
      obtain ⟨cva9, cvc9, rfl, hcvc9⟩ := own_slice hown9
      have AQ9 := hidd aq9
      have BQ9 := hidd (HBQ.out.trans bq9)
      have m1 : W10.cell? ⟨Q, 1, none⟩ = some (.slice cva es.length cvc) := (cellO bx9).trans rfl
      have mz : ∀ q, W10.frozen? ⟨Q, q, none⟩ = false := fun q => looseO bx9
      clear hown9 hg9 hw9 aq9 bq9 bx9 OWN SRC BAS z1 w0 w1 w2 w3 w4 w5 w6 w7 w8 w9 w10
      try simp only [Act.put, List.setIfInBounds_toArray, List.set_cons_succ, List.set_cons_zero]
      go_wp2_with fail
      go_roundw
      case rel => exact ⟨k + 1, _, _, by omega, by go_num, BQ9.out, AQ9.out, HME.out⟩
      case measure => simp [intOf]; omega
    obtain rfl : k = cn := by omega
    obtain ⟨cva, cvc, rfl, hcvc⟩ := own_slice HK.out.2.1.row
    have bq : Below V6.heap.size V6 wr := by rw [← HQ.out]; exact HK.out.1
    have tb := (Below.refl wr.heap.size wr).alloc (Nat.le_refl _) (.cells #[.int .i64 P.args, .slice cva es.length cvc] 47)
    have bqt := bq.trans (tb.mono bq.size)
    have A7 := hidd (A6.out.below bqt)
    have B7 := hidd (B6.out.trans (bqt.mono (Nat.le_of_lt A6.out.lt)))
    have FIT : Hid ((PE.mk P.args es cva cvc).Ok (fun b => O < b ∧ b < (wr.alloc (.cells #[.int .i64 P.args, .slice cva es.length cvc] 47)).heap.size ∧ (Value.slice pva ps2.length pvc).ownBlock ≠ some b) (wr.alloc (.cells #[.int .i64 P.args, .slice cva es.length cvc] 47))) := (HK.out.2.1.below tb).pe (fun b h1 h2 => ⟨by have := A6.out.lt; have := HQ.out; omega, h2, fun e => by have := (A6.out.row.lt b e).2; have := HQ.out; omega⟩)
    have i1 : wr.cell? ⟨O, 1, none⟩ = some (.slice pva ps2.length pvc) := (cellO ((bq.block _ A6.out.lt).trans A6.out.box)).trans rfl
    have z0 : wr.cell? ⟨Q, 0, none⟩ = some (.int .i64 P.args) := (cellO HK.out.2.1.box).trans rfl
    have z1 : wr.cell? ⟨Q, 1, none⟩ = some (.slice cva es.length cvc) := (cellO HK.out.2.1.box).trans rfl
    have HKE := hidd HK.out.2.2
    have HPR : Hid ((ps2 ++ [PE.mk P.args es cva cvc]).map PE.pro = (PP.take (p + 1)).map bareP) := by
      show (ps2 ++ [PE.mk P.args es cva cvc]).map PE.pro = (PP.take (p + 1)).map bareP
      rw [List.map_append, HPE.out, List.take_add_one, HPP.out]
      have e1 : PE.pro (PE.mk P.args es cva cvc) = bareP P := by
        unfold PE.pro bareP
        simp only
        rw [HKE.out, List.take_of_length_le (by rw [← HCN.out]; exact Nat.le_refl _)]
      simp [e1]
    obtain ⟨i0, hinf, hz0, hz1, hz2⟩ := info_parts infoPro
    obtain ⟨pl2, hpl2e⟩ : ∃ v, v = ps2.length := ⟨_, rfl⟩
    have HPL2 := hidd hpl2e
    have OWN : Hid ((wr.alloc (.cells #[.int .i64 P.args, .slice cva es.length cvc] 47)).ownsRow O 47 2 (.slice pva pl2 pvc) pl2 (flatP ps2)) := by
      have := A7.out.row
      rw [← hpl2e] at this
      exact this
    have SRC := hidd (alloc1S wr #[.int .i64 P.args, .slice cva es.length cvc] 47 [.int .i64 P.args, .slice cva es.length cvc] rfl)
    have BAS : O ≤ (wr.alloc (.cells #[.int .i64 P.args, .slice cva es.length cvc] 47)).heap.size := Nat.le_of_lt A7.out.lt
    rw [← hpl2e] at i1 hp2
    clear tb bq bqt HK hpl2e hpvc
    go_wp2_with (at_builtin; refine wpList_rowS rfl _ _ 22 rfl O 47 i0 _ 2 32 Tryz.underlying22 hinf hz0 hz1 hz2 rfl (by decide) (.slice pva pl2 pvc) pl2 (flatP ps2) rfl OWN.out (some ⟨wr.heap.size, 0, none⟩) 1 1 [.int .i64 P.args, .slice cva es.length cvc] rfl rfl (Or.inr ⟨_, 0, rfl, SRC.out⟩) (by simp [Value.oneCell']) (by unfold maxLen; omega) (by omega) BAS ?_)
    intro v9 W9 hown9 hg9 hw9
    rw [HPL2.out] at hown9 hg9 hw9
    obtain ⟨au9, bo9, bx9⟩ := A7.out.push (PE.mk P.args es cva cvc) FIT.out hown9 hg9 (by simpa using hw9)
    obtain ⟨pva9, pvc9, rfl, hpvc9⟩ := own_slice hown9
    have AU9 := hidd au9
    have BO9 := hidd (B7.out.trans bo9)
    have m1 : W9.cell? ⟨O, 1, none⟩ = some (.slice pva ps2.length pvc) := (cellO bx9).trans rfl
    have mz : ∀ q, W9.frozen? ⟨O, q, none⟩ = false := fun q => looseO bx9
    clear hown9 hg9 hw9 au9 bo9 bx9 OWN SRC BAS i1 z0 z1 A7 B7 A6 B6 FIT
    try simp only [Act.put, List.setIfInBounds_toArray, List.set_cons_succ, List.set_cons_zero]
    go_wp2_with fail
    go_roundw
    case rel => exact ⟨p + 1, _, _, by omega, by go_num, BO9.out, AU9.out, HPR.out⟩
    case measure => simp [intOf]; omega
  obtain rfl : p = n := by omega
  obtain ⟨pva, pvc, rfl, hpvc⟩ := own_slice HP.out.2.1.row
  have hRO : R < O := by rw [HRR.out, HOO.out]; omega
  have hz := (HP.out.1.block R hRO).trans HZ.out
  have hps : ps2.map PE.pro = PP.map bareP := by
    rw [HP.out.2.2, List.take_of_length_le (by rw [← HN.out]; exact Nat.le_refl _)]
  have k1 := ((Keep.refl R wr).setCell ⟨R, 0, none⟩ rfl (.string nm)).setCell ⟨R, 1, none⟩ rfl (.slice pva ps2.length pvc)
  have FIN : Hid (((wr.setCell ⟨R, 0, none⟩ (.string nm)).setCell ⟨R, 1, none⟩ (.slice pva ps2.length pvc)).heap[R]? = some (.cells #[.string nm, .slice pva ps2.length pvc] 24 (0, 0))) := two_at1 (two_at0 hz _) _
  have bwW := HBV.out.trans (HP.out.1.mono (by rw [HOO.out]; omega))
  have HBB := hidd (bwW.trans (k1.toBelow (by rw [HRR.out]; omega) bwW.size))
  have HPEs : Hid (PEs (fun k => k < ((wr.setCell ⟨R, 0, none⟩ (.string nm)).setCell ⟨R, 1, none⟩ (.slice pva ps2.length pvc)).heap.size) ((wr.setCell ⟨R, 0, none⟩ (.string nm)).setCell ⟨R, 1, none⟩ (.slice pva ps2.length pvc)) pva pvc ps2) := HP.out.2.1.pes.stay (fun k hk => k1.block k hk.2 (by simp; omega)) (fun k hk => Nat.lt_of_lt_of_le hk.2 k1.size)
  have HPS := hidd hps
  have o0 : wr.cell? ⟨O, 0, none⟩ = some (.string nm) := (cellO HP.out.2.1.box).trans rfl
  have o1 : wr.cell? ⟨O, 1, none⟩ = some (.slice pva ps2.length pvc) := (cellO HP.out.2.1.box).trans rfl
  have r0 : wr.cell? ⟨R, 0, none⟩ = some (.string ⟨#[]⟩) := (cellO hz).trans rfl
  have r1 : wr.cell? ⟨R, 1, none⟩ = some (.slice none 0 0) := (cellO hz).trans rfl
  have rz : ∀ q, wr.frozen? ⟨R, q, none⟩ = false := fun q => looseO hz
  clear hz hps k1 bwW HP
  go_wp2_with fail
  exact bodyPost_ret (ret16 FIN.out rfl) rfl ⟨ps2, pva, pvc, rfl, HPS.out, HBB.out, HPEs.out⟩
end
end Go.Proofs.YtdnbingddbakaaaGreatDoor
