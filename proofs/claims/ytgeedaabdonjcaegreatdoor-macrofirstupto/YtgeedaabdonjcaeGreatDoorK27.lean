/- A region that draws its order, in a round of a range over a function: as outside of one. Package rule set: a list of a template, between two data that come of a thing. -/
import Derived.Deep.AppendLies
import Derived.Deep.RegionHeldLaw
import Derived.OrdersHeld
import Derived.OwnWalkIn
import Derived.RangeFuncCalls
import Derived.TacticsInMore
import Derived.Test.YtgeedaabdonjcaeGreatDoorK26
namespace Go.Proofs.YtgeedaabdonjcaeGreatDoor
section
set_option linter.unusedVariables false
set_option linter.unusedSimpArgs false
open Go.RowKit

/-- Only what comes to its end. -/
def NormQ (Q : Exit → Act → World → Prop) : Exit → Act → World → Prop
  | .normal, a, w => Q .normal a w
  | _, _, _ => False
theorem NormQ.imp {Q : Exit → Act → World → Prop} : ∀ (e : Exit) (a : Act) (w : World), NormQ Q e a w → Q e a w := fun e a w h => by
  cases e <;> first | exact h | cases h
theorem NormQ.shut (Q : Exit → Act → World → Prop) : ¬ LetsOut (NormQ Q) := fun ⟨_, _, h⟩ => h

theorem wpOpIn_of_wpOp {l n : Nat} {P : Program} {ops : Array Oper} {Q : Exit → Act → World → Prop} {i : Nat} {K K' : Act → World → Prop} {a : Act} {w : World} (hlo : ¬ LetsOut Q)
    (hnd : ∀ (o : Oper), ops[i]? = some o → ∀ c, o.op ≠ .defer c) (hK : ∀ a w, K a w → K' a w) (h : wpOp P ops Q i K a w) : wpOpIn (Fence.wide.inRound l) n P ops Q i K' a w := by
  unfold wpOp at h
  unfold wpOpIn
  cases ho : ops[i]? with
  | none =>
    rw [ho] at h
    exact hK _ _ h
  | some o =>
    rw [ho] at h
    simp only at h ⊢
    by_cases hw : Region.wanted o (yielded ops a.tmps) = true
    · rw [if_pos hw] at h
      rw [if_pos hw]
      rcases h with h | ⟨_, h⟩
      · refine ⟨fun _ _ => trivial, ?_⟩
        unfold Oper.wp at h
        have e : o.semAt (Fence.wide.inRound l).round a.eval = execOp a.eval o := Oper.semAt_some l a.eval o (hnd o ho)
        rw [e]
        generalize (execOp a.eval o).run P w = r at h
        cases r with
        | ok x w' =>
          cases x with
          | value v => exact hK _ _ h
          | skip => exact hK _ _ h
          | defer d => exact hK _ _ h
          | enter f args =>
            refine ⟨fun q => (Bool.noConfusion q), CallsIn.inRound l (callsIn_wide.2 (Calls.mono h fun e w'' he => ?_))⟩
            cases e with
            | returned v => exact hK _ _ he
            | panicked c => exact he
            | outgrown => exact he
          | row r args =>
            refine ⟨fun q => (Bool.noConfusion q), fun c cs _ => ?_⟩
            obtain ⟨v, w'', hr, hs⟩ := h c cs
            exact ⟨v, w'', hK _ _ hr, stepsIn_wide.2 hs⟩
          | _ => cases h
        | halt x w' =>
          cases x with
          | panic v => exact h
          | _ => cases h
      · exact absurd h hlo
    · rw [if_neg hw] at h
      rw [if_neg hw]
      exact ⟨fun _ _ => trivial, hK _ _ h⟩

theorem wpAnyIn_of_any {l n : Nat} {P : Program} {md : Region.Mode} {ops : Array Oper} {Q : Exit → Act → World → Prop} (hlo : ¬ LetsOut Q) (hnd : ∀ (i : Nat) (o : Oper), ops[i]? = some o → ∀ c, o.op ≠ .defer c) :
    ∀ (fuel : Nat) (listed : Array Bool) (a : Act) (w : World), wpAny P md ops Q fuel listed a w → wpAnyIn (Fence.wide.inRound l) n P md ops Q fuel listed a w
  | 0, _, _, _, h => h
  | fuel + 1, listed, a, w, h => ⟨h.1, fun i hi => wpOpIn_of_wpOp hlo (hnd i) (fun a' w' => wpAnyIn_of_any hlo hnd fuel _ a' w') (h.2 i hi)⟩

/-- Is none of them a defer? -/
def noDefer (l : List Oper) : Bool := l.all fun o => match o.op with | .defer _ => false | _ => true
theorem noDefer_spec {l : List Oper} (h : noDefer l = true) : ∀ (i : Nat) (o : Oper), l.toArray[i]? = some o → ∀ c, o.op ≠ .defer c := fun i o ho c e => by
  have hm : o ∈ l := by
    rw [List.getElem?_toArray] at ho
    exact List.mem_of_getElem? ho
  have := List.all_eq_true.1 h o hm
  rw [e] at this
  cases this

/-- A REGION THAT DRAWS, IN A ROUND, by what is held (S). -/
theorem wpIn_region_heldR {l n id : Nat} {P : Program} {ops : List Oper} {Q : Exit → Act → World → Prop} {a : Act} {w : World} (S : World → Prop) (hm : P.follows .mixedOrders = true) (hnd : noDefer ops = true) (hS : S w.drew)
    (h : S w.drew → wpAnyH P .any ops.toArray (NormQ Q) S ops.toArray.size (Array.replicate ops.toArray.size false) a w.drew) : (Code.region id ops.toArray true).wpIn (Fence.wide.inRound l) n P Q a w :=
  Go.wpIn_mono (wpIn_region_any hm (wpAnyIn_of_any (NormQ.shut Q) (noDefer_spec hnd) _ _ _ _ (wpAny_of_held _ _ _ _ (h hS)))) (NormQ.imp (Q := Q))
end
section
set_option linter.unusedVariables false
set_option linter.unusedSimpArgs false
open Go.RowKit Go.Shelf

def z6 : Array Value := #[.int .i64 0, .int .i64 0, .string ⟨#[]⟩, .int .i64 0, .int .i64 0, .slice none 0 0]

theorem keeps_grown {B : Nat} {a b : World} {row : Option Nat} (hg : a.grownBy b row) (hr : ∀ r, row = some r → ∀ o, a.heap[r]? = some o → o.isCells = true) : KeepsFrom B a b :=
  ⟨hg.size, fun k o _ hk ho => (hg.block k (Array.getElem?_eq_some_iff.1 hk).1 (fun e => by
    have := hr k e.symm o hk
    rw [this] at ho
    cases ho)).trans hk⟩

theorem setSixAt_heap (w : World) (N q k : Nat) (v0 v1 v2 v3 v4 v5 : Value) (h : k ≠ N) : (setSixAt w N q v0 v1 v2 v3 v4 v5).heap[k]? = w.heap[k]? ∧ (setSixAt w N q v0 v1 v2 v3 v4 v5).heap.size = w.heap.size := by
  unfold setSixAt
  refine ⟨?_, by simp [World.setCell]⟩
  rw [Below.heap_setCell _ _ _ _ h, Below.heap_setCell _ _ _ _ h, Below.heap_setCell _ _ _ _ h, Below.heap_setCell _ _ _ _ h, Below.heap_setCell _ _ _ _ h, Below.heap_setCell _ _ _ _ h]

/-- What stays between two data. -/
structure In0 (w w1 W : World) (B gb nth dp bk : Nat) (X : Array Value) (vv : Value) (es : List (Dat × Option Addr × Nat)) (wr : World) : Prop where
  lb : LB w gb nth dp z6 false vv wr
  row : RowC (w.heap.size + 7) vv es wr
  keeps : KeepsFrom w1.heap.size W wr
  kpt : KpT B (w.heap.size + 1 + 1 + 1 + 1 + 1 + 1) W wr
  box : wr.heap[bk]? = some (.cells X 28 (0, 0))
  ne : vv.ownBlock ≠ some bk
  le : w1.heap.size ≤ wr.heap.size

section
variable {w w1 W wr w2 : World} {B gb nth dp bk : Nat} {X : Array Value} {vv : Value} {es : List (Dat × Option Addr × Nat)}

theorem In0.step (h : In0 w w1 W B gb nth dp bk X vv es wr) (hB : B ≤ gb) (h7 : w.heap.size + 7 ≤ w1.heap.size) (hbk : w1.heap.size ≤ bk) {vv' : Value} {es' : List (Dat × Option Addr × Nat)}
    (hlb : LB w gb nth dp z6 false vv' w2) (hrow : RowC (w.heap.size + 7) vv' es' w2) (hk : KeepsFrom w1.heap.size wr w2) (hbx : w2.heap[w.heap.size + 1 + 1 + 1 + 1 + 1 + 1]? = wr.heap[w.heap.size + 1 + 1 + 1 + 1 + 1 + 1]?) (hbb : w2.heap[bk]? = wr.heap[bk]?) (hold : ∀ k, k < B → w2.heap[k]? = wr.heap[k]?) (hne : vv'.ownBlock ≠ some bk) :
    In0 w w1 W B gb nth dp bk X vv' es' w2 :=
  ⟨hlb, hrow, h.keeps.trans hk, ⟨Nat.le_trans h.kpt.1 hk.size, hbx.trans h.kpt.2.1, fun k hk => (hold k hk).trans (h.kpt.2.2 k hk)⟩, hbb.trans h.box, hne, Nat.le_trans h.le hk.size⟩

theorem In0.kp (h : In0 w w1 W B gb nth dp bk X vv es wr) (hB : B ≤ gb) (h7 : w.heap.size + 7 ≤ w1.heap.size) (hbk : w1.heap.size ≤ bk) (k : Kp gb wr w2) : In0 w w1 W B gb nth dp bk X vv es w2 := by
  have hl := h.lb.old.lt
  have hle := h.le
  have hbl := (Array.getElem?_eq_some_iff.1 h.box).1
  refine h.step hB h7 hbk (h.lb.kp k) (h.row.keep k.keep (by omega)) ⟨k.keep.size, fun q o hq hk _ => (k.keep.block q (Array.getElem?_eq_some_iff.1 hk).1 (by simp; omega)).trans hk⟩ (k.keep.block _ (by omega) (by simp; omega)) (k.keep.block _ hbl (by simp; omega)) (fun q hq => k.keep.block q (by omega) (by simp; omega)) h.ne

theorem In0.below (h : In0 w w1 W B gb nth dp bk X vv es wr) (hB : B ≤ gb) (h7 : w.heap.size + 7 ≤ w1.heap.size) (hbk : w1.heap.size ≤ bk) (k : Below wr.heap.size wr w2) : In0 w w1 W B gb nth dp bk X vv es w2 := h.kp hB h7 hbk ((Kp.refl h.lb.old.lt').below k)

theorem own_cells {v : Value} (h : RowC (w.heap.size + 7) v es wr) : ∀ r, v.ownBlock = some r → ∀ o, wr.heap[r]? = some o → o.isCells = true := fun r hr o ho => by
  rcases h.own.2 with ⟨rfl, _⟩ | ⟨g, cap, cur, rfl, hbg, hgc, _⟩
  · cases hr
  · have : g = r := by simpa [Value.ownBlock] using hr
    subst this
    rw [hgc] at ho
    cases ho
    rfl

/-- One more has grown: its place is made. -/
theorem In0.made {z : Obj} (h : In0 w w1 W B gb nth dp bk X vv es wr) (hB : B ≤ gb) (h7 : w.heap.size + 7 ≤ w1.heap.size) (hbk : w1.heap.size ≤ bk) {w4 : World} {g cap : Nat} {d : Dat} {a : Option Addr} {dc f : Nat} {wq : World} {z0 z1 z2 z3 z4 z5 : Value}
    (hd : Dc (New wq wr) wr f a d.kids) (hBq : w.heap.size + 7 ≤ wq.heap.size) (hv : ∀ k, vv.ownBlock = some k → k < wq.heap.size) (hn : d.name.size ≤ maxLen) (hcap : d.kids.length ≤ dc)
    (hown : w4.ownsRow (w.heap.size + 7) 28 6 (.slice (some ⟨g, 0, none⟩) (es.length + 1) cap) (es.length + 1) (flat es ++ [z0, z1, z2, z3, z4, z5]))
    (hg : (wr.drew.alloc z).grownBy w4 vv.ownBlock) (hw : vv.ownBlock = some g ∨ g = wr.heap.size + 1) :
    LB w gb nth dp z6 false vv w4 ∧ RZ (w.heap.size + 7) g cap es d a dc w4 ∧ KeepsFrom w1.heap.size W w4 ∧ KpT B (w.heap.size + 1 + 1 + 1 + 1 + 1 + 1) W w4 ∧ w4.heap[bk]? = some (.cells X 28 (0, 0)) ∧ g ≠ bk ∧ w1.heap.size ≤ w4.heap.size ∧ w.heap.size + 7 ≤ g ∧ Below wr.heap.size wr (wr.drew.alloc z) := by
  have hb : Below wr.heap.size wr (wr.drew.alloc z) := (Below.drew (Below.refl _ _)).alloc (Nat.le_refl _) _
  have h2 := h.below hB h7 hbk hb
  have hbl := (Array.getElem?_eq_some_iff.1 h.box).1
  have hr7 : ∀ r, vv.ownBlock = some r → w.heap.size + 7 ≤ r := fun r e => (h.row.own.lt r e).1
  have hle := h.le
  have hl := h.lb.old.lt
  have hg7 := (hown.lt g rfl).1
  have hgb : g ≠ bk := by
    rcases hw with e | e
    · intro q
      subst q
      exact h.ne e
    · omega
  have hsz : (wr.drew.alloc z).heap.size = wr.heap.size + 1 := by simp
  have hd' : Dc (New wq wr.drew) wr.drew f a d.kids := Dc.stay (w := wr) (w' := wr.drew) (ok := New wq wr) (ok' := New wq wr.drew) (fun _ _ => rfl) (fun _ h => h) _ _ _ hd
  refine ⟨h2.lb.grown hg (fun r e => by have := hr7 r e; omega), RZ.made (wr := wq) (w := wr.drew) z (h.row.below (Below.drew (Below.refl _ _))) hBq hv hd' hn hcap hown hg hw, h2.keeps.trans (keeps_grown hg (own_cells h2.row)), ⟨Nat.le_trans h2.kpt.1 hg.size, ?_, fun k hk => ?_⟩, ?_, hgb, Nat.le_trans h2.le hg.size, hg7, hb⟩
  · exact (hg.block _ (by omega) (fun e => by have := hr7 _ e.symm; omega)).trans h2.kpt.2.1
  · exact (hg.block k (by omega) (fun e => by have := hr7 _ e.symm; omega)).trans (h2.kpt.2.2 k hk)
  · exact (hg.block bk (by omega) (fun e => h.ne e.symm)).trans h2.box
end

/-- One more has grown. -/
theorem In0.done {w w1 W w4 : World} {B gb nth dp bk g cap : Nat} {X : Array Value} {vv : Value} {es : List (Dat × Option Addr × Nat)} {d : Dat} {a : Option Addr} {dc : Nat} (hB : B ≤ gb) (h7 : w.heap.size + 7 ≤ w1.heap.size) (hbk : w1.heap.size ≤ bk)
    (hlb : LB w gb nth dp z6 false vv w4) (hrz : RZ (w.heap.size + 7) g cap es d a dc w4) (hk : KeepsFrom w1.heap.size W w4) (hkp : KpT B (w.heap.size + 1 + 1 + 1 + 1 + 1 + 1) W w4) (hbox : w4.heap[bk]? = some (.cells X 28 (0, 0))) (hgb : g ≠ bk) (hle : w1.heap.size ≤ w4.heap.size) (hg7 : w.heap.size + 7 ≤ g) {n : Nat} (hc : Ctr gb n w4) :
    (In0 w w1 W B gb nth dp bk X (.slice (some ⟨g, 0, none⟩) (es.length + 1) cap) (es ++ [(d, a, dc)]) ((setSixAt w4 g (es.length * 6) (.int .i64 d.kind) (.int .i64 d.n) (.string d.name) (.int .i64 d.stamp) (.int .i64 d.lib) (.slice a d.kids.length dc)).setCell ⟨w.heap.size + 1 + 1 + 1 + 1 + 1, 5, none⟩ (.slice (some ⟨g, 0, none⟩) (es.length + 1) cap)) ∧
     Ctr gb n ((setSixAt w4 g (es.length * 6) (.int .i64 d.kind) (.int .i64 d.n) (.string d.name) (.int .i64 d.stamp) (.int .i64 d.lib) (.slice a d.kids.length dc)).setCell ⟨w.heap.size + 1 + 1 + 1 + 1 + 1, 5, none⟩ (.slice (some ⟨g, 0, none⟩) (es.length + 1) cap))) ∧
    (In0 w w1 W B gb nth dp bk X (.slice (some ⟨g, 0, none⟩) (es.length + 1) cap) (es ++ [(d, a, dc)]) (setSixAt (w4.setCell ⟨w.heap.size + 1 + 1 + 1 + 1 + 1, 5, none⟩ (.slice (some ⟨g, 0, none⟩) (es.length + 1) cap)) g (es.length * 6) (.int .i64 d.kind) (.int .i64 d.n) (.string d.name) (.int .i64 d.stamp) (.int .i64 d.lib) (.slice a d.kids.length dc)) ∧
     Ctr gb n (setSixAt (w4.setCell ⟨w.heap.size + 1 + 1 + 1 + 1 + 1, 5, none⟩ (.slice (some ⟨g, 0, none⟩) (es.length + 1) cap)) g (es.length * 6) (.int .i64 d.kind) (.int .i64 d.n) (.string d.name) (.int .i64 d.stamp) (.int .i64 d.lib) (.slice a d.kids.length dc))) := by
  have hl := hlb.old.lt
  have hbl := (Array.getElem?_eq_some_iff.1 hbox).1
  have hs5 := hlb.size
  have hne : (Value.slice (some ⟨g, 0, none⟩) (es.length + 1) cap).ownBlock ≠ some bk := by
    intro e
    exact hgb (by simpa [Value.ownBlock] using e)
  have h0 : In0 w w1 W B gb nth dp bk X vv es w4 → True := fun _ => trivial
  -- the first order
  obtain ⟨r1, g1⟩ := hrz.fill
  have lb1 := (hlb.grown g1 (fun r e => by have := Option.some.inj e; omega)).set5 (.slice (some ⟨g, 0, none⟩) (es.length + 1) cap)
  have row1 := r1.keep (rb := w.heap.size + 1 + 1 + 1 + 1 + 1) ((Keep.refl _ _).setCell ⟨w.heap.size + 1 + 1 + 1 + 1 + 1, 5, none⟩ rfl (.slice (some ⟨g, 0, none⟩) (es.length + 1) cap)) (by omega)
  -- the second order
  have rz2 := hrz.set (p := ⟨w.heap.size + 1 + 1 + 1 + 1 + 1, 5, none⟩) (by show w.heap.size + 1 + 1 + 1 + 1 + 1 < _; omega) (.slice (some ⟨g, 0, none⟩) (es.length + 1) cap)
  obtain ⟨r2, g2⟩ := rz2.fill
  have lb2 := (hlb.set5 (.slice (some ⟨g, 0, none⟩) (es.length + 1) cap)).grown g2 (fun r e => by have := Option.some.inj e; omega)
  have blk : ∀ k, k < w4.heap.size → k ≠ g → k ≠ w.heap.size + 1 + 1 + 1 + 1 + 1 →
      ((setSixAt w4 g (es.length * 6) (.int .i64 d.kind) (.int .i64 d.n) (.string d.name) (.int .i64 d.stamp) (.int .i64 d.lib) (.slice a d.kids.length dc)).setCell ⟨w.heap.size + 1 + 1 + 1 + 1 + 1, 5, none⟩ (.slice (some ⟨g, 0, none⟩) (es.length + 1) cap)).heap[k]? = w4.heap[k]? ∧
      (setSixAt (w4.setCell ⟨w.heap.size + 1 + 1 + 1 + 1 + 1, 5, none⟩ (.slice (some ⟨g, 0, none⟩) (es.length + 1) cap)) g (es.length * 6) (.int .i64 d.kind) (.int .i64 d.n) (.string d.name) (.int .i64 d.stamp) (.int .i64 d.lib) (.slice a d.kids.length dc)).heap[k]? = w4.heap[k]? := fun k hk h1 h2 =>
    ⟨(Below.heap_setCell _ _ _ _ h2).trans (g1.block k hk (by simpa using h1)), (g2.block k (by simpa [World.setCell] using hk) (by simpa using h1)).trans (Below.heap_setCell _ _ _ _ h2)⟩
  have sz1 : w4.heap.size ≤ ((setSixAt w4 g (es.length * 6) (.int .i64 d.kind) (.int .i64 d.n) (.string d.name) (.int .i64 d.stamp) (.int .i64 d.lib) (.slice a d.kids.length dc)).setCell ⟨w.heap.size + 1 + 1 + 1 + 1 + 1, 5, none⟩ (.slice (some ⟨g, 0, none⟩) (es.length + 1) cap)).heap.size := by
    have := g1.size
    simpa [World.setCell] using this
  have sz2 : w4.heap.size ≤ (setSixAt (w4.setCell ⟨w.heap.size + 1 + 1 + 1 + 1 + 1, 5, none⟩ (.slice (some ⟨g, 0, none⟩) (es.length + 1) cap)) g (es.length * 6) (.int .i64 d.kind) (.int .i64 d.n) (.string d.name) (.int .i64 d.stamp) (.int .i64 d.lib) (.slice a d.kids.length dc)).heap.size := by
    have := g2.size
    simpa [World.setCell] using this
  have hgc : ∀ o, w4.heap[g]? = some o → o.isCells = true := fun o ho => by
    obtain ⟨⟨z0, z1, z2, z3, z4, z5, hown⟩, _⟩ := hrz
    rcases hown.2 with ⟨e, _⟩ | ⟨g', cap', cur, e, hbg, hgc, _⟩
    · cases e
    · have : g = g' := by simpa [Value.ownBlock] using congrArg Value.ownBlock e
      subst this
      rw [hgc] at ho
      cases ho
      rfl
  have hnc : ∀ k o, w4.heap[k]? = some o → o.isCells = false → k ≠ g ∧ k ≠ w.heap.size + 1 + 1 + 1 + 1 + 1 := fun k o hk ho => by
    refine ⟨fun e => ?_, fun e => ?_⟩
    · subst e
      rw [hgc o hk] at ho
      cases ho
    · subst e
      rw [hlb.b5] at hk
      cases hk
      cases ho
  refine ⟨⟨⟨lb1, row1, hk.trans ⟨sz1, fun k o _ hk ho => ((blk k (Array.getElem?_eq_some_iff.1 hk).1 (hnc k o hk ho).1 (hnc k o hk ho).2).1).trans hk⟩, ⟨Nat.le_trans hkp.1 sz1, ?_, fun k hk => ?_⟩, ?_, hne, Nat.le_trans hle sz1⟩, ?_⟩,
    ⟨⟨lb2, r2, hk.trans ⟨sz2, fun k o _ hk ho => ((blk k (Array.getElem?_eq_some_iff.1 hk).1 (hnc k o hk ho).1 (hnc k o hk ho).2).2).trans hk⟩, ⟨Nat.le_trans hkp.1 sz2, ?_, fun k hk => ?_⟩, ?_, hne, Nat.le_trans hle sz2⟩, ?_⟩⟩
  · exact (blk _ (by omega) (by omega) (by omega)).1.trans hkp.2.1
  · exact (blk k (by omega) (by omega) (by omega)).1.trans (hkp.2.2 k hk)
  · exact (blk bk hbl (fun e => hgb e.symm) (by omega)).1.trans hbox
  · exact hc.of_block (blk gb hc.lt (by omega) (by omega)).1
  · exact (blk _ (by omega) (by omega) (by omega)).2.trans hkp.2.1
  · exact (blk k (by omega) (by omega) (by omega)).2.trans (hkp.2.2 k hk)
  · exact (blk bk hbl (fun e => hgb e.symm) (by omega)).2.trans hbox
  · exact hc.of_block (blk gb hc.lt (by omega) (by omega)).2
end
end Go.Proofs.YtgeedaabdonjcaeGreatDoor
