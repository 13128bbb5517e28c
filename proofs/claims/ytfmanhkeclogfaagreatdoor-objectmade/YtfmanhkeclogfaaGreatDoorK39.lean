/- Chapter 9: the reader: any instruction; rows that are read. Chapter 9: the reader: procedures. -/
import Derived.Test.YtfmanhkeclogfaaGreatDoorK17
import Derived.Test.YtfmanhkeclogfaaGreatDoorK38
namespace Go.Proofs.YtfmanhkeclogfaaGreatDoor
section
set_option linter.unusedVariables false
set_option linter.unusedSimpArgs false
open Go.RowKit

theorem rins_any (qr : QR) (hq : Qok qr) (M b : Nat) (l : List UInt8) (bad : Bool) (w : World) (h : RD M b l bad w) (r : In × List UInt8 × Bool) (hr : insR qr l bad = some r) : Calls Tryz.prog 92 #[.pointer (some ⟨b, 0, none⟩)] w (ToldRI M b r w) := by
  unfold insR at hr
  by_cases c0 : layW (numR l bad).1 = 0
  · rw [if_pos c0] at hr
    obtain rfl := Option.some.inj hr
    exact rins_0 M b l bad w h _ rfl c0
  rw [if_neg c0] at hr
  by_cases c1 : layW (numR l bad).1 = 1
  · rw [if_pos c1] at hr
    obtain rfl := Option.some.inj hr
    exact rins_1 M b l bad w h _ rfl c1
  rw [if_neg c1] at hr
  by_cases c2 : layW (numR l bad).1 = 2
  · rw [if_pos c2] at hr
    obtain rfl := Option.some.inj hr
    exact rins_2 M b l bad w h _ rfl c2 _ rfl
  rw [if_neg c2] at hr
  by_cases c3 : layW (numR l bad).1 = 3
  · rw [if_pos c3] at hr
    cases e : qr (numR l bad).2.1 (numR l bad).2.2 with
    | none => rw [e] at hr; simp at hr
    | some x =>
      obtain ⟨d, l', b'⟩ := x
      rw [e] at hr
      simp at hr
      subst hr
      exact rins_3 M b l bad w h _ rfl c3 qr hq d l' b' e
  rw [if_neg c3] at hr
  by_cases c4 : layW (numR l bad).1 = 4
  · rw [if_pos c4] at hr
    obtain rfl := Option.some.inj hr
    exact rins_4 M b l bad w h _ rfl c4 _ _ rfl rfl
  rw [if_neg c4] at hr
  by_cases c5 : layW (numR l bad).1 = 5
  · rw [if_pos c5] at hr
    obtain rfl := Option.some.inj hr
    exact rins_5 M b l bad w h _ rfl c5 _ rfl
  rw [if_neg c5] at hr
  obtain rfl := Option.some.inj hr
  have c6 : layW (numR l bad).1 = 6 := by
    revert c0 c1 c2 c3 c4 c5
    unfold layW
    repeat' split
    all_goals intro c0 c1 c2 c3 c4 c5
    all_goals first | rfl | omega
  exact rins_6 M b l bad w h _ rfl c6 _ rfl
theorem numR_len (l : List UInt8) (bad : Bool) : (numR l bad).2.1.length ≤ l.length := by
  unfold numR
  cases e : takeN l 0 0 with
  | none => exact Nat.le_refl _
  | some x =>
    obtain ⟨u, r, z⟩ := x
    exact takeN_len l 0 0 u r z e
theorem countR_len (l : List UInt8) (bad : Bool) : (countR l bad).2.1.length ≤ l.length := by
  unfold countR
  split <;> exact numR_len l bad
theorem textR_left (l : List UInt8) (bad : Bool) : (textR l bad).2.1.length ≤ l.length := by
  unfold textR
  simp only [List.length_drop]
  have := countR_len l bad
  omega
/-- Rows that are read: of which things, how they lie. -/
structure GP where
  E : Type
  cells : E → List Value
  Ok : (Nat → Prop) → World → E → Prop
  T : TypeId
  sz : Nat
  BT : TypeId
  stay : ∀ (ok ok' : Nat → Prop) (w w' : World) (e : E), Ok ok w e → (∀ k, ok k → w'.heap[k]? = w.heap[k]?) → (∀ k, ok k → ok' k) → Ok ok' w' e
def gI : GP := ⟨IE, IE.cells, fun ok w e => e.Ok ok w, 52, 11, 47, fun _ _ _ _ _ h a b => h.stay a b⟩
def gP : GP := ⟨PE, PE.cells, fun ok w e => e.Ok ok w, 47, 2, 24, fun _ _ _ _ _ h a b => h.stay a b⟩
/-- A ROW BEING READ, in box P; the result's box is N1. -/
structure GR (G : GP) (M b P N1 : Nat) (Z : Array Value) (hd tv : Value) (es : List G.E) (l : List UInt8) (bad : Bool) (w W : World) : Prop where
  rd : RD M b l bad W
  kb : Keep b w W
  mw : M ≤ w.heap.size
  n1 : W.heap[N1]? = some (.cells Z G.BT (0, 0))
  p : W.heap[P]? = some (.cells #[hd, tv] G.BT (0, 0))
  l1 : w.heap.size ≤ N1
  l2 : w.heap.size ≤ P
  ne : N1 ≠ P
  row : W.ownsRow w.heap.size G.T G.sz tv es.length (es.flatMap G.cells)
  s1 : tv.ownBlock ≠ some P
  s2 : tv.ownBlock ≠ some N1
  ti : ∀ e ∈ es, G.Ok (fun k => w.heap.size ≤ k ∧ k < W.heap.size ∧ k ≠ P ∧ k ≠ N1 ∧ some k ≠ tv.ownBlock) W e
theorem GR.drew {G M b P N1 Z hd tv es l bad w W} (h : GR G M b P N1 Z hd tv es l bad w W) : GR G M b P N1 Z hd tv es l bad w W.drew :=
  ⟨h.rd.off (fun _ _ => rfl) h.rd.2.1, h.kb.drew, h.mw, h.n1, h.p, h.l1, h.l2, h.ne, h.row, h.s1, h.s2, fun e he => G.stay _ _ _ _ e (h.ti e he) (fun _ _ => rfl) (fun _ a => a)⟩
theorem GR.bl {G M b P N1 Z hd tv es l bad w W} (h : GR G M b P N1 Z hd tv es l bad w W) : b < w.heap.size ∧ b ≠ P ∧ b ≠ N1 ∧ tv.ownBlock ≠ some b := by
  have h1 := h.rd.1
  have h2 := h.mw
  have h3 := h.l1
  have h4 := h.l2
  refine ⟨by omega, by omega, by omega, fun e => ?_⟩
  have := (h.row.lt b e).1
  omega
theorem GR.call {G M b P N1 Z hd tv es l bad w W l' bad' W'} (h : GR G M b P N1 Z hd tv es l bad w W) (hr : RD M b l' bad' W') (hk : Keep b W W') : GR G M b P N1 Z hd tv es l' bad' w W' := by
  have hb := h.bl
  refine ⟨hr, h.kb.trans hk, h.mw, (hk.block _ (Array.getElem?_eq_some_iff.1 h.n1).1 (by simp; omega)).trans h.n1, (hk.block _ (Array.getElem?_eq_some_iff.1 h.p).1 (by simp; omega)).trans h.p, h.l1, h.l2, h.ne, h.row.kept hk (Or.inr hb.2.2.2), h.s1, h.s2, fun e he => G.stay _ _ _ _ e (h.ti e he) (fun k a => hk.block k a.2.1 (by simp; omega)) (fun k a => ⟨a.1, Nat.lt_of_lt_of_le a.2.1 hk.size, a.2.2⟩)⟩
theorem GR.below {G M b P N1 Z hd tv es l bad w W W'} (h : GR G M b P N1 Z hd tv es l bad w W) (hb : Below W.heap.size W W') : GR G M b P N1 Z hd tv es l bad w W' :=
  h.call (h.rd.below (hb.mono h.rd.2.1)) (Keep.below (Keep.refl _ _) hb)
theorem GR.slice {G M b P N1 Z hd tv es l bad w W} (h : GR G M b P N1 Z hd tv es l bad w W) : ∃ a cap, tv = .slice a es.length cap ∧ es.length ≤ cap := by
  rcases h.row.2 with ⟨rfl, h0⟩ | ⟨g, cap, cur, rfl, hbg, hg, hnc, hcm, hcs, htake⟩
  · exact ⟨none, 0, by rw [h0], by rw [h0]; exact Nat.le_refl _⟩
  · exact ⟨some ⟨g, 0, none⟩, cap, rfl, hnc⟩
/-- ONE MORE. -/
theorem GR.push {G M b P N1 Z hd tv es l bad w W} (h : GR G M b P N1 Z hd tv es l bad w W) {e : G.E} (he : G.Ok (fun k => w.heap.size ≤ k ∧ k < W.heap.size ∧ k ≠ P ∧ k ≠ N1 ∧ some k ≠ tv.ownBlock) W e) {tv' : Value} {w4 : World} (hown : w4.ownsRow w.heap.size G.T G.sz tv' (es.length + 1) (es.flatMap G.cells ++ G.cells e)) (hg : W.grownBy w4 tv.ownBlock) (hw : tv'.ownBlock = tv.ownBlock ∨ tv'.ownBlock = some W.heap.size) :
    GR G M b P N1 Z hd tv' (es ++ [e]) l bad w (w4.setCell ⟨P, 1, none⟩ tv') := by
  have hb := h.bl
  have hP := (Array.getElem?_eq_some_iff.1 h.p).1
  have hN := (Array.getElem?_eq_some_iff.1 h.n1).1
  have hs := hg.size
  have hlt := h.rd.2.1
  have hsc : (w4.setCell ⟨P, 1, none⟩ tv').heap.size = w4.heap.size := by simp [World.setCell]
  have keep : ∀ k, k < W.heap.size → k ≠ P → some k ≠ tv.ownBlock → (w4.setCell ⟨P, 1, none⟩ tv').heap[k]? = W.heap[k]? := fun k hk h1 h2 => (Below.heap_setCell _ _ _ _ h1).trans (hg.block k hk h2)
  have low : ∀ k, k < w.heap.size → k < W.heap.size ∧ k ≠ P ∧ some k ≠ tv.ownBlock := fun k hk => ⟨Nat.lt_of_lt_of_le hk h.kb.size, by have := h.l2; omega, fun e => by have := (h.row.lt k e.symm).1; omega⟩
  have own' : ∀ k, k < W.heap.size → some k ≠ tv.ownBlock → some k ≠ tv'.ownBlock := fun k hk h2 => by
    rcases hw with e | e
    · rw [e]; exact h2
    · rw [e]; intro e2; have := Option.some.inj e2; omega
  have s1' : tv'.ownBlock ≠ some P := fun e => (own' P hP (fun e => h.s1 e.symm)) e.symm
  have s2' : tv'.ownBlock ≠ some N1 := fun e => (own' N1 hN (fun e => h.s2 e.symm)) e.symm
  have okk : ∀ (k : Nat), (w.heap.size ≤ k ∧ k < W.heap.size ∧ k ≠ P ∧ k ≠ N1 ∧ some k ≠ tv.ownBlock) → (w.heap.size ≤ k ∧ k < (w4.setCell ⟨P, 1, none⟩ tv').heap.size ∧ k ≠ P ∧ k ≠ N1 ∧ some k ≠ tv'.ownBlock) := fun k a => ⟨a.1, by rw [hsc]; omega, a.2.2.1, a.2.2.2.1, own' k a.2.1 a.2.2.2.2⟩
  have kk : Keep P w4 (w4.setCell ⟨P, 1, none⟩ tv') := (Keep.refl _ _).setCell _ rfl _
  refine ⟨h.rd.off (fun k hk => by obtain ⟨a1, a2, a3⟩ := low k (by have := h.mw; omega); exact keep k a1 a2 a3) (by rw [hsc]; omega), ?_, h.mw, ?_, ?_, h.l1, h.l2, h.ne, ?_, s1', s2', ?_⟩
  · refine ⟨kk.os.trans (hg.os.trans h.kb.os), kk.tape.trans (hg.tape.trans h.kb.tape), kk.output.trans (hg.output.trans h.kb.output), by rw [hsc]; exact Nat.le_trans h.kb.size hs, fun k hk hkb => ?_⟩
    obtain ⟨a1, a2, a3⟩ := low k hk
    exact (keep k a1 a2 a3).trans (h.kb.block k hk hkb)
  · rw [keep N1 hN h.ne (fun e => h.s2 e.symm)]; exact h.n1
  · have hp4 : w4.heap[P]? = some (.cells #[hd, tv] G.BT (0, 0)) := (hg.block P hP (fun e => h.s1 e.symm)).trans h.p
    exact two_at1 hp4 tv'
  · rw [List.length_append, List.length_singleton, List.flatMap_append, List.flatMap_cons, List.flatMap_nil, List.append_nil]
    exact hown.kept kk (Or.inr s1')
  · intro x hx
    rcases List.mem_append.1 hx with hx | hx
    · exact G.stay _ _ _ _ x (h.ti x hx) (fun k a => keep k a.2.1 a.2.2.1 a.2.2.2.2) okk
    · rw [List.mem_singleton] at hx
      subst hx
      exact G.stay _ _ _ _ x he (fun k a => keep k a.2.1 a.2.2.1 a.2.2.2.2) okk
end
section
set_option linter.unusedVariables false
set_option linter.unusedSimpArgs false
open Go.RowKit

def codeR (qr : QR) : Nat → List UInt8 → Bool → Option (List In × List UInt8 × Bool)
  | 0, l, bad => some ([], l, bad)
  | n + 1, l, bad => match insR qr l bad with
    | none => none
    | some x => if x.2.2 = true then some ([x.1], x.2.1, true) else (codeR qr n x.2.1 x.2.2).map fun r => (x.1 :: r.1, r.2)
def protoR (qr : QR) (l : List UInt8) (bad : Bool) : Option (Pro × List UInt8 × Bool) := (codeR qr (countR (numR l bad).2.1 (numR l bad).2.2).1.toNat (countR (numR l bad).2.1 (numR l bad).2.2).2.1 (countR (numR l bad).2.1 (numR l bad).2.2).2.2).map fun r => (⟨(numR l bad).1, r.1⟩, r.2)
def ToldRP (M b : Nat) (r : Pro × List UInt8 × Bool) (w : World) (e : Ending) (w' : World) : Prop :=
  ∃ p : PE, e = .returned (.agg #[.int .i64 p.args, .slice p.a p.es.length p.c]) ∧ p.pro = r.1 ∧ RD M b r.2.1 r.2.2 w' ∧ Keep b w w' ∧ p.Ok (fun k => w.heap.size ≤ k ∧ k < w'.heap.size) w'
theorem insR_len (qr : QR) (hqr : ∀ l bad d l' bad', qr l bad = some (d, l', bad') → l'.length ≤ l.length) {l : List UInt8} {bad : Bool} {x : In × List UInt8 × Bool} (h : insR qr l bad = some x) : x.2.1.length ≤ l.length := by
  have h1 := numR_len l bad
  have h2 := numR_len (numR l bad).2.1 (numR l bad).2.2
  have h3 := textR_left (numR l bad).2.1 (numR l bad).2.2
  have h4 := textR_left (textR (numR l bad).2.1 (numR l bad).2.2).2.1 (textR (numR l bad).2.1 (numR l bad).2.2).2.2
  unfold insR at h
  repeat' split at h
  all_goals first
    | (obtain rfl := Option.some.inj h; simp only; omega)
    | skip
  cases e : qr (numR l bad).2.1 (numR l bad).2.2 with
  | none => rw [e] at h; simp at h
  | some y =>
    obtain ⟨d, l', b'⟩ := y
    rw [e] at h
    simp at h
    subst h
    have := hqr _ _ _ _ _ e
    simp only
    omega
theorem ret62 {ts : Array Value} {W : World} {N : Nat} {x0 x1 : Value} (h : W.heap[N]? = some (.cells #[x0, x1] 47 (0, 0))) (h4 : ts[2]? = some (.pointer (some ⟨N, 0, none⟩))) :
    (results Tryz.f62 ts).run Tryz.prog W = .ok (.agg #[x0, x1]) W := by
  have cc : ∀ q, W.cell? ⟨N, q, none⟩ = #[x0, x1][q]? := fun q => by simp [World.cell?, h]
  have q0 := cc 0
  have q1 := cc 1
  simp at q0 q1
  simp [results, Tryz.results62, go_sem, h4, q0, q1]
theorem ret31 {ts : Array Value} {W : World} {N : Nat} {x0 x1 : Value} (h : W.heap[N]? = some (.cells #[x0, x1] 24 (0, 0))) (h4 : ts[2]? = some (.pointer (some ⟨N, 0, none⟩))) :
    (results Tryz.f31 ts).run Tryz.prog W = .ok (.agg #[x0, x1]) W := by
  have cc : ∀ q, W.cell? ⟨N, q, none⟩ = #[x0, x1][q]? := fun q => by simp [World.cell?, h]
  have q0 := cc 0
  have q1 := cc 1
  simp at q0 q1
  simp [results, Tryz.results31, go_sem, h4, q0, q1]
/-- The result's box is filled. -/
theorem GR.fill {G M b P N1 z0 z1 hd tv es l bad w W} (h : GR G M b P N1 #[z0, z1] hd tv es l bad w W) : ((W.setCell ⟨N1, 0, none⟩ hd).setCell ⟨N1, 1, none⟩ tv).heap[N1]? = some (.cells #[hd, tv] G.BT (0, 0)) ∧ RD M b l bad ((W.setCell ⟨N1, 0, none⟩ hd).setCell ⟨N1, 1, none⟩ tv) ∧ Keep b w ((W.setCell ⟨N1, 0, none⟩ hd).setCell ⟨N1, 1, none⟩ tv) ∧
    ((W.setCell ⟨N1, 0, none⟩ hd).setCell ⟨N1, 1, none⟩ tv).ownsRow w.heap.size G.T G.sz tv es.length (es.flatMap G.cells) ∧ ∀ e ∈ es, G.Ok (fun k => w.heap.size ≤ k ∧ k < ((W.setCell ⟨N1, 0, none⟩ hd).setCell ⟨N1, 1, none⟩ tv).heap.size) ((W.setCell ⟨N1, 0, none⟩ hd).setCell ⟨N1, 1, none⟩ tv) e := by
  have k : Keep N1 W ((W.setCell ⟨N1, 0, none⟩ hd).setCell ⟨N1, 1, none⟩ tv) := ((Keep.refl N1 W).setCell ⟨N1, 0, none⟩ rfl hd).setCell ⟨N1, 1, none⟩ rfl tv
  have hM : M ≤ N1 := Nat.le_trans h.mw h.l1
  refine ⟨two_at1 (two_at0 h.n1 _) _, h.rd.below (k.toBelow hM h.rd.2.1), ?_, h.row.kept k (Or.inr h.s2), fun e he => G.stay _ _ _ _ e (h.ti e he) (fun j hj => k.block j hj.2.1 (by simp; exact hj.2.2.2.1)) (fun j hj => ⟨hj.1, Nat.lt_of_lt_of_le hj.2.1 k.size⟩)⟩
  have kb := h.kb
  exact ⟨k.os.trans kb.os, k.tape.trans kb.tape, k.output.trans kb.output, Nat.le_trans kb.size k.size, fun i hi hc => (k.block i (Nat.lt_of_lt_of_le hi kb.size) (by have := h.l1; simp; omega)).trans (kb.block i hi hc)⟩
theorem GR.done {M b P N1 z0 z1 ar tv} {es : List IE} {l bad w W} (h : GR gI M b P N1 #[z0, z1] (.int .i64 ar) tv es l bad w W) : ∃ p : PE, p.args = ar ∧ p.es = es ∧ tv = .slice p.a p.es.length p.c ∧ p.Ok (fun k => w.heap.size ≤ k ∧ k < ((W.setCell ⟨N1, 0, none⟩ (.int .i64 ar)).setCell ⟨N1, 1, none⟩ tv).heap.size) ((W.setCell ⟨N1, 0, none⟩ (.int .i64 ar)).setCell ⟨N1, 1, none⟩ tv) := by
  obtain ⟨_, _, _, h4, h5⟩ := h.fill
  generalize ((W.setCell ⟨N1, 0, none⟩ (.int .i64 ar)).setCell ⟨N1, 1, none⟩ tv) = V at h4 h5 ⊢
  obtain ⟨a, c, htv, hc⟩ := h.slice
  refine ⟨⟨ar, es, a, c⟩, rfl, rfl, htv, hc, ?_, h5⟩
  rcases h4.2 with ⟨h0, h1⟩ | ⟨g, cap, cur, h0, hbg, hg, hrest⟩
  · exact Or.inl (List.eq_nil_of_length_eq_zero h1)
  · rw [htv] at h0
    simp at h0
    obtain ⟨rfl, rfl⟩ := h0
    refine Or.inr ⟨g, rfl, ⟨hbg, (Array.getElem?_eq_some_iff.1 hg).1⟩, fun j u hu => ?_⟩
    have hj : j < es.length * 11 := by
      have := (List.getElem?_eq_some_iff.1 hu).1
      simpa [flatI_len] using this
    subst htv
    exact (h4.cellAt j hj).trans hu

set_option maxRecDepth 100000 in
set_option maxHeartbeats 6400000 in
theorem rproto_any (qr : QR) (hq : Qok qr) (hqr : ∀ l bad d l' bad', qr l bad = some (d, l', bad') → l'.length ≤ l.length) (M b : Nat) (l : List UInt8) (bad : Bool) (w : World) (h : RD M b l bad w) (hl : l.length ≤ 60000) (r : Pro × List UInt8 × Bool) (hr : protoR qr l bad = some r) : Calls Tryz.prog 62 #[.pointer (some ⟨b, 0, none⟩)] w (ToldRP M b r w) := by
  unfold protoR at hr
  have bz : Below w.heap.size w (w.alloc (.cells #[.int .i64 0, .slice none 0 0] 47)) := (Below.refl _ _).alloc (Nat.le_refl _) _
  have HZ := hidd (World.alloc_heap_new w (.cells #[.int .i64 0, .slice none 0 0] 47))
  have R0 := hidd (h.below (bz.mono h.2.1))
  have N := hidd (rnumber_any M b l bad _ R0.out)
  have HBM : Hid (b < M ∧ M ≤ w.heap.size) := ⟨h.1, h.2.1⟩
  have HBZ := hidd bz
  have hln := numR_len l bad
  have INS : Hid (∀ x l1 b1, insR qr l1 b1 = some x → ∀ W, RD M b l1 b1 W → Calls Tryz.prog 92 #[.pointer (some ⟨b, 0, none⟩)] W (ToldRI M b x W)) := fun x l1 b1 hx W hW => rins_any qr hq M b l1 b1 W hW x hx
  have INL : Hid (∀ (l : List UInt8) (bad : Bool) (x : In × List UInt8 × Bool), insR qr l bad = some x → x.2.1.length ≤ l.length) := fun l bad x hx => insR_len qr hqr hx
  generalize numR l bad = y at hr N hln
  obtain ⟨ar, l1, b1⟩ := y
  simp only at hr hln
  have hlc := countR_len l1 b1
  have CO : Hid (∀ W, RD M b l1 b1 W → Calls Tryz.prog 61 #[.pointer (some ⟨b, 0, none⟩)] W (ToldN M b (countR l1 b1) W)) := fun W hW => rcount_any M b l1 b1 W hW
  have HCN := hidd (countR_nat l1 b1)
  generalize countR l1 b1 = y2 at hr CO HCN hlc
  obtain ⟨nn, l2, b2⟩ := y2
  simp only at hr HCN hlc
  obtain ⟨n, rfl, hn⟩ := HCN.out
  rw [Int.toNat_natCast] at hr
  obtain ⟨⟨xs, l3, b3⟩, hc, rfl⟩ : ∃ c, codeR qr n l2 b2 = some c ∧ (⟨⟨ar, c.1⟩, c.2⟩ : Pro × List UInt8 × Bool) = r := by
    cases e : codeR qr n l2 b2 with
    | none => rw [e] at hr; simp at hr
    | some c => rw [e] at hr; exact ⟨c, rfl, by simpa using hr⟩
  have HC := hidd hc
  have HLL : Hid (l2.length ≤ 60000 ∧ n ≤ 60000) := ⟨by omega, by omega⟩
  have hn6 : n ≤ 60000 := by omega
  clear hr h bz hq hqr hln hlc hn HCN hc hl
  go_enter Tryz.func62, Tryz.ntmps62
  go_upto_region 1 with fail
  generalize w.alloc (.cells #[.int .i64 0, .slice none 0 0] 47) = V0 at HZ R0 N HBZ ⊢
  go_wp2_with fail
  refine N.out.mono ?_
  rintro e w1 ⟨rfl, h1, k1⟩
  simp only at h1
  have GR2 : Hid (GR gI M b w1.heap.size w.heap.size #[.int .i64 0, .slice none 0 0] (.int .i64 ar) (.slice none 0 0) [] l1 b1 w (w1.alloc (.cells #[.int .i64 ar, .slice none 0 0] 47))) := by
    have hlt := (Array.getElem?_eq_some_iff.1 HZ.out).1
    have hsz := k1.size
    have hbm := HBM.out
    have n1 := (k1.block _ hlt (by simp; omega)).trans HZ.out
    have k2 := (Keep.below (Keep.refl b w) HBZ.out).trans k1
    exact ⟨h1.below ((Below.refl _ _).alloc (by omega) _), k2.alloc _, by omega, (Below.heap_alloc _ _ _ (by omega)).trans n1, World.alloc_heap_new w1 _, Nat.le_refl _, by omega, by omega, World.ownsRow_nil _ _ _ _, by simp [Value.ownBlock], by simp [Value.ownBlock], by simp⟩
  clear h1 k1 N R0 HZ HBZ
  go_upto_region 2 with fail
  generalize w1.alloc (.cells #[.int .i64 ar, .slice none 0 0] 47) = V2 at GR2 ⊢
  generalize w1.heap.size = P at GR2 ⊢
  obtain ⟨N1, hN1⟩ : ∃ n, n = w.heap.size := ⟨_, rfl⟩
  rw [← hN1] at GR2 ⊢
  have HN1 := hidd hN1
  rw [hN1] at GR2
  have GR2' : Hid (GR gI M b P N1 #[.int .i64 0, .slice none 0 0] (.int .i64 ar) (.slice none 0 0) [] l1 b1 w V2) := by
    unfold Hid
    rw [hN1]
    exact GR2.out
  clear hN1 GR2
  go_wp2_with fail
  refine (CO.out _ GR2'.out.rd).mono ?_
  rintro e w3 ⟨rfl, h1, k1⟩
  have GR3 := hidd (GR2'.out.call h1 k1)
  simp only at GR3 ⊢
  clear h1 k1 CO GR2'
  go_wp2_with fail
  go_loopw [9] (fun i wr => ∃ (j : Nat) (tv : Value) (es : List IE) (l : List UInt8) (bad : Bool), j ≤ n ∧ i = .int .i64 j ∧ Hid (GR gI M b P N1 #[.int .i64 0, .slice none 0 0] (.int .i64 ar) tv es l bad w wr ∧ es.length = j ∧ l.length ≤ 60000 ∧ (codeR qr (n - j) l bad).map (fun r => (es.map IE.i ++ r.1, r.2)) = some (xs, l3, b3))) (fun i _ => n - (intOf i).toNat)
  case atStart => exact ⟨0, _, [], l2, b2, Nat.zero_le _, rfl, GR3.out, rfl, HLL.out.1, by simp [HC.out]⟩
  case round =>
  obtain ⟨j, tv, es, l, bad, hj, rfl, HR⟩ := hrel
  by_cases hlt : j < n
  case neg =>
    obtain rfl : j = n := by omega
    have hfin := HR.out.2.2.2
    rw [Nat.sub_self, codeR] at hfin
    simp at hfin
    obtain ⟨rfl, rfl, rfl⟩ := hfin
    obtain ⟨p, p1, p2, p3, p4⟩ := HR.out.1.done
    have HF := hidd HR.out.1.fill
    have HP4 := hidd p4
    have HPP : Hid (p.pro = ⟨ar, es.map IE.i⟩) := by unfold Hid PE.pro; rw [p1, p2]
    have HAR := hidd p1
    have HTV := hidd p3
    obtain ⟨ta, tc, htv, _⟩ := HR.out.1.slice
    have c0 : wr.cell? ⟨P, 0, none⟩ = some (.int .i64 ar) := (cellO HR.out.1.p).trans rfl
    have c1 : wr.cell? ⟨P, 1, none⟩ = some tv := (cellO HR.out.1.p).trans rfl
    have d0 : wr.cell? ⟨N1, 0, none⟩ = some (.int .i64 0) := (cellO HR.out.1.n1).trans rfl
    have d1 : wr.cell? ⟨N1, 1, none⟩ = some (.slice none 0 0) := (cellO HR.out.1.n1).trans rfl
    have z0 := looseO (q := 0) HR.out.1.n1
    have z1 := looseO (q := 1) HR.out.1.n1
    clear p1 p2 p3 p4 HR GR3
    subst htv
    go_wp2_with fail
    refine bodyPost_ret (ret62 HF.out.1 rfl) rfl ⟨p, ?_, HPP.out, HF.out.2.1, HF.out.2.2.1, HP4.out⟩
    rw [HTV.out, HAR.out]
  obtain ⟨k, hk⟩ : ∃ k, n - j = k + 1 := ⟨n - j - 1, by omega⟩
  have hfin := HR.out.2.2.2
  rw [hk, codeR] at hfin
  cases hin : insR qr l bad with
  | none => rw [hin] at hfin; simp at hfin
  | some y =>
  rw [hin] at hfin
  obtain ⟨x, l', bad'⟩ := y
  have IN := hidd (INS.out _ _ _ hin)
  have HLN := hidd (INL.out _ _ _ hin)
  simp only at hfin HLN
  have HFI := hidd hfin
  have HKJ : Hid (n - (j + 1) = k) := by unfold Hid; omega
  have C_0 := hidd HR.out.1.drew
  have HLEN : Hid (es.length + 1 ≤ 60000) := by have := HR.out.2.1; unfold Hid; omega
  have HRE := hidd HR.out.2
  clear hin hfin hk HR
  go_upto_region 4 with fail
  go_cut [] from 11 to 17 (fun wx => ∃ (tv' : Value) (e : IE), Hid (GR gI M b P N1 #[.int .i64 0, .slice none 0 0] (.int .i64 ar) tv' (es ++ [e]) l' bad' w wx) ∧ Hid (e.i = x))
  case first =>
    refine wp_region_held_drew (S := fun u => True) (by kernel_rfl) trivial (fun hS => ?_)
    refine wpAnyH_take (i := 0) (oi := { dst := some 11, op := Op.fieldAddr 47 (Operand.tmp 3) 1, type := 0, pos := _, after := _, guard := none }) (v := .pointer (some ⟨P, 1, none⟩)) rfl (by kernel_rfl) (by kernel_rfl) (by kernel_rfl) (fun _ _ _ h => h) (Or.inl ⟨by rfl, fun u hu => by go_simp⟩) hS ?_
    simp only [Act.put, List.setIfInBounds_toArray, List.set_cons_zero, List.set_cons_succ]
    refine wpAnyH_take (i := 2) (oi := { dst := some 13, op := Op.move (Operand.tmp 0), type := 114, pos := _, after := _, guard := none }) (v := .pointer (some ⟨b, 0, none⟩)) rfl (by kernel_rfl) (by kernel_rfl) (by kernel_rfl) (fun _ _ _ h => h) (Or.inl ⟨by rfl, fun u hu => by go_simp⟩) hS ?_
    simp only [Act.put, List.setIfInBounds_toArray, List.set_cons_zero, List.set_cons_succ]
    refine wpAnyH_ready (rs := [1, 3]) (by kernel_rfl) (by simp) (AllReadyH.cons (o := { dst := some 12, op := Op.load 45 (Operand.tmp 11), type := 45, pos := _, after := _, guard := none }) rfl (fun K hK => ?_) (AllReadyH.cons (o := { dst := some 14, op := Op.call { callee := Callee.value (Operand.func 92), args := #[Operand.tmp 13], argTypes := #[114] }, type := 52, pos := _, after := _, guard := none }) rfl (fun K hK => ?_) AllReadyH.nil))
    · have zt : (wr.drew).cell? ⟨P, 1, none⟩ = some tv := (cellO C_0.out.p).trans rfl
      go_simp
      clear zt
      refine hK.out _ _ trivial (fun hS => ?_)
      clear hK K
      refine wpAnyH_ready (rs := [3]) (by kernel_rfl) (by simp) (AllReadyH.cons (o := { dst := some 14, op := Op.call { callee := Callee.value (Operand.func 92), args := #[Operand.tmp 13], argTypes := #[114] }, type := 52, pos := _, after := _, guard := none }) rfl (fun K hK => ?_) AllReadyH.nil)
      go_simp
      refine (IN.out (wr.drew) C_0.out.rd).mono ?_
      rintro e W1 ⟨qa, qc, rfl, hr1, hk1, q1, q2, q3, q4, f, q5⟩
      have ONE := hidd (IE.one ⟨x, qa, qc⟩)
      have C_1 := hidd (C_0.out.call hr1 hk1)
      have X_1 : Hid (IE.Ok (fun k => w.heap.size ≤ k ∧ k < W1.heap.size ∧ k ≠ P ∧ k ≠ N1 ∧ some k ≠ tv.ownBlock) W1 ⟨x, qa, qc⟩) := ⟨q1, q2, q3, q4, f, Dc.stay (fun _ _ => rfl) (fun k hk => ⟨Nat.le_trans C_0.out.kb.size hk.1, hk.2, by have := (Array.getElem?_eq_some_iff.1 C_0.out.p).1; omega, by have := (Array.getElem?_eq_some_iff.1 C_0.out.n1).1; omega, fun e => by have := (C_0.out.row.lt k e.symm).2; omega⟩) f _ _ q5⟩
      clear hr1 hk1 q1 q2 q3 q4 q5 C_0
      unfold iv ic
      simp only
      show K _ W1
      refine hK.out _ _ trivial (fun hS => ?_)
      clear hK K
      refine wpAnyH_ready (rs := [4]) (by kernel_rfl) (by simp) (AllReadyH.cons (o := { dst := some 15, op := Op.buildSlice 45 1 #[(0, Operand.tmp 14)], type := 45, pos := _, after := _, guard := none }) rfl (fun K hK => ?_) AllReadyH.nil)
      go_simp
      have hb2 : Below W1.heap.size W1 (W1.alloc (.cells #[.int .i64 x.op, .int .i64 x.a, .int .i64 x.n, .string x.lib, .string x.own, .int .i64 x.quote.kind, .int .i64 x.quote.n, .string x.quote.name, .int .i64 x.quote.stamp, .int .i64 x.quote.lib, .slice qa x.quote.kids.length qc] 52)) := (Below.refl _ _).alloc (Nat.le_refl _) _
      have AC_2 := hidd (World.alloc_heap_new W1 (.cells #[.int .i64 x.op, .int .i64 x.a, .int .i64 x.n, .string x.lib, .string x.own, .int .i64 x.quote.kind, .int .i64 x.quote.n, .string x.quote.name, .int .i64 x.quote.stamp, .int .i64 x.quote.lib, .slice qa x.quote.kids.length qc] 52))
      have C_2 := hidd (C_1.out.below hb2)
      have X_2 := hidd (X_1.out.stay (fun k hk => hb2.block k hk.2.1) (fun k hk => (⟨hk.1, Nat.lt_of_lt_of_le hk.2.1 hb2.size, hk.2.2⟩ : w.heap.size ≤ k ∧ k < (W1.alloc (.cells #[.int .i64 x.op, .int .i64 x.a, .int .i64 x.n, .string x.lib, .string x.own, .int .i64 x.quote.kind, .int .i64 x.quote.n, .string x.quote.name, .int .i64 x.quote.stamp, .int .i64 x.quote.lib, .slice qa x.quote.kids.length qc] 52)).heap.size ∧ k ≠ P ∧ k ≠ N1 ∧ some k ≠ tv.ownBlock)))
      change K _ (W1.alloc (.cells #[.int .i64 x.op, .int .i64 x.a, .int .i64 x.n, .string x.lib, .string x.own, .int .i64 x.quote.kind, .int .i64 x.quote.n, .string x.quote.name, .int .i64 x.quote.stamp, .int .i64 x.quote.lib, .slice qa x.quote.kids.length qc] 52))
      generalize W1.alloc (.cells #[.int .i64 x.op, .int .i64 x.a, .int .i64 x.n, .string x.lib, .string x.own, .int .i64 x.quote.kind, .int .i64 x.quote.n, .string x.quote.name, .int .i64 x.quote.stamp, .int .i64 x.quote.lib, .slice qa x.quote.kids.length qc] 52) = W2 at AC_2 C_2 X_2 ⊢
      generalize W1.heap.size = nb at AC_2 ⊢
      clear hb2 C_1 X_1
      refine hK.out _ _ trivial (fun hS => ?_)
      clear hK K
      refine wpAnyH_ready (rs := [5]) (by kernel_rfl) (by simp) (AllReadyH.cons (o := { dst := some 16, op := Op.call { callee := Callee.builtin Builtin.append, args := #[Operand.tmp 12, Operand.tmp 15], argTypes := #[45, 45] }, type := 45, pos := _, after := _, guard := none }) rfl (fun K hK => ?_) AllReadyH.nil)
      obtain ⟨i0, hinf, hz0, hz1, hz2⟩ := info_parts infoIns
      refine step_append_where rfl (.tmp 12) (.tmp 15) 45 rfl w.heap.size 52 i0 _ 11 128 Tryz.underlying45 hinf hz0 hz1 hz2 rfl (by decide) tv es.length (es.flatMap gI.cells) rfl (by exact C_2.out.row) ⟨nb, 0, none⟩ 1 1 (IE.mk x qa qc).cells rfl rfl ?_ ONE.out (by decide) ?_ ?_ ?_ ?_
      · intro q u hq
        have hcell := cellO (q := q) AC_2.out
        have hadd := addr_add nb q
        rw [hadd, hcell]
        simpa [IE.cells, ic, PE.cells] using hq
      · have := HLEN.out; unfold maxLen; omega
      · have := HLEN.out; omega
      · exact Nat.le_trans C_2.out.kb.size (Nat.le_refl _)
      intro tv' w4 hown4 hg4 hw4
      have PU := hidd (C_2.out.push (e := IE.mk x qa qc) X_2.out hown4 hg4 hw4)
      have P4 : w4.heap[P]? = some (.cells #[.int .i64 ar, tv] 47 (0, 0)) := (hg4.block P (Array.getElem?_eq_some_iff.1 C_2.out.p).1 (fun e => C_2.out.s1 e.symm)).trans C_2.out.p
      have P4H := hidd P4
      clear hown4 hg4 hw4 P4 hinf hz0 hz1 hz2
      clear C_2 X_2 AC_2
      show K _ w4
      refine hK.out _ _ trivial (fun hS => ?_)
      clear hK K
      refine wpAnyH_take (i := 6) (oi := { dst := some 17, op := Op.fieldAddr 47 (Operand.tmp 3) 1, type := 0, pos := _, after := _, guard := none }) (v := .pointer (some ⟨P, 1, none⟩)) rfl (by kernel_rfl) (by kernel_rfl) (by kernel_rfl) (fun _ _ _ h => h) (Or.inl ⟨by rfl, fun u hu => by go_simp⟩) hS ?_
      simp only [Act.put, List.setIfInBounds_toArray, List.set_cons_zero, List.set_cons_succ]
      refine wpAnyH_ready (rs := [7]) (by kernel_rfl) (by simp) (AllReadyH.cons (o := { dst := none, op := Op.store 45 (Operand.tmp 17) (Operand.tmp 16), type := 0, pos := _, after := _, guard := none }) rfl (fun K hK => ?_) AllReadyH.nil)
      have n0 : w4.cell? ⟨P, 1, none⟩ = some tv := (cellO P4H.out).trans rfl
      have nz := looseO (q := 1) P4H.out
      obtain ⟨ta, tc, htv, htc⟩ := PU.out.slice
      subst htv
      go_simp
      clear n0 nz P4H
      refine hK.out _ _ trivial (fun hS => ?_)
      clear hK K
      refine wpAnyH_done (by kernel_rfl) ?_ _
      go_wp2_with fail
      go_meet
      case rel =>
        exact ⟨_, _, PU.out, rfl⟩
    · go_simp
      refine (IN.out (wr.drew) C_0.out.rd).mono ?_
      rintro e W1 ⟨qa, qc, rfl, hr1, hk1, q1, q2, q3, q4, f, q5⟩
      have ONE := hidd (IE.one ⟨x, qa, qc⟩)
      have C_1 := hidd (C_0.out.call hr1 hk1)
      have X_1 : Hid (IE.Ok (fun k => w.heap.size ≤ k ∧ k < W1.heap.size ∧ k ≠ P ∧ k ≠ N1 ∧ some k ≠ tv.ownBlock) W1 ⟨x, qa, qc⟩) := ⟨q1, q2, q3, q4, f, Dc.stay (fun _ _ => rfl) (fun k hk => ⟨Nat.le_trans C_0.out.kb.size hk.1, hk.2, by have := (Array.getElem?_eq_some_iff.1 C_0.out.p).1; omega, by have := (Array.getElem?_eq_some_iff.1 C_0.out.n1).1; omega, fun e => by have := (C_0.out.row.lt k e.symm).2; omega⟩) f _ _ q5⟩
      clear hr1 hk1 q1 q2 q3 q4 q5 C_0
      unfold iv ic
      simp only
      show K _ W1
      refine hK.out _ _ trivial (fun hS => ?_)
      clear hK K
      refine wpAnyH_ready (rs := [1, 4]) (by kernel_rfl) (by simp) (AllReadyH.cons (o := { dst := some 12, op := Op.load 45 (Operand.tmp 11), type := 45, pos := _, after := _, guard := none }) rfl (fun K hK => ?_) (AllReadyH.cons (o := { dst := some 15, op := Op.buildSlice 45 1 #[(0, Operand.tmp 14)], type := 45, pos := _, after := _, guard := none }) rfl (fun K hK => ?_) AllReadyH.nil))
      · have zt : (W1).cell? ⟨P, 1, none⟩ = some tv := (cellO C_1.out.p).trans rfl
        go_simp
        clear zt
        refine hK.out _ _ trivial (fun hS => ?_)
        clear hK K
        refine wpAnyH_ready (rs := [4]) (by kernel_rfl) (by simp) (AllReadyH.cons (o := { dst := some 15, op := Op.buildSlice 45 1 #[(0, Operand.tmp 14)], type := 45, pos := _, after := _, guard := none }) rfl (fun K hK => ?_) AllReadyH.nil)
        go_simp
        have hb2 : Below W1.heap.size W1 (W1.alloc (.cells #[.int .i64 x.op, .int .i64 x.a, .int .i64 x.n, .string x.lib, .string x.own, .int .i64 x.quote.kind, .int .i64 x.quote.n, .string x.quote.name, .int .i64 x.quote.stamp, .int .i64 x.quote.lib, .slice qa x.quote.kids.length qc] 52)) := (Below.refl _ _).alloc (Nat.le_refl _) _
        have AC_2 := hidd (World.alloc_heap_new W1 (.cells #[.int .i64 x.op, .int .i64 x.a, .int .i64 x.n, .string x.lib, .string x.own, .int .i64 x.quote.kind, .int .i64 x.quote.n, .string x.quote.name, .int .i64 x.quote.stamp, .int .i64 x.quote.lib, .slice qa x.quote.kids.length qc] 52))
        have C_2 := hidd (C_1.out.below hb2)
        have X_2 := hidd (X_1.out.stay (fun k hk => hb2.block k hk.2.1) (fun k hk => (⟨hk.1, Nat.lt_of_lt_of_le hk.2.1 hb2.size, hk.2.2⟩ : w.heap.size ≤ k ∧ k < (W1.alloc (.cells #[.int .i64 x.op, .int .i64 x.a, .int .i64 x.n, .string x.lib, .string x.own, .int .i64 x.quote.kind, .int .i64 x.quote.n, .string x.quote.name, .int .i64 x.quote.stamp, .int .i64 x.quote.lib, .slice qa x.quote.kids.length qc] 52)).heap.size ∧ k ≠ P ∧ k ≠ N1 ∧ some k ≠ tv.ownBlock)))
        change K _ (W1.alloc (.cells #[.int .i64 x.op, .int .i64 x.a, .int .i64 x.n, .string x.lib, .string x.own, .int .i64 x.quote.kind, .int .i64 x.quote.n, .string x.quote.name, .int .i64 x.quote.stamp, .int .i64 x.quote.lib, .slice qa x.quote.kids.length qc] 52))
        generalize W1.alloc (.cells #[.int .i64 x.op, .int .i64 x.a, .int .i64 x.n, .string x.lib, .string x.own, .int .i64 x.quote.kind, .int .i64 x.quote.n, .string x.quote.name, .int .i64 x.quote.stamp, .int .i64 x.quote.lib, .slice qa x.quote.kids.length qc] 52) = W2 at AC_2 C_2 X_2 ⊢
        generalize W1.heap.size = nb at AC_2 ⊢
        clear hb2 C_1 X_1
        refine hK.out _ _ trivial (fun hS => ?_)
        clear hK K
        refine wpAnyH_ready (rs := [5]) (by kernel_rfl) (by simp) (AllReadyH.cons (o := { dst := some 16, op := Op.call { callee := Callee.builtin Builtin.append, args := #[Operand.tmp 12, Operand.tmp 15], argTypes := #[45, 45] }, type := 45, pos := _, after := _, guard := none }) rfl (fun K hK => ?_) AllReadyH.nil)
        obtain ⟨i0, hinf, hz0, hz1, hz2⟩ := info_parts infoIns
        refine step_append_where rfl (.tmp 12) (.tmp 15) 45 rfl w.heap.size 52 i0 _ 11 128 Tryz.underlying45 hinf hz0 hz1 hz2 rfl (by decide) tv es.length (es.flatMap gI.cells) rfl (by exact C_2.out.row) ⟨nb, 0, none⟩ 1 1 (IE.mk x qa qc).cells rfl rfl ?_ ONE.out (by decide) ?_ ?_ ?_ ?_
        · intro q u hq
          have hcell := cellO (q := q) AC_2.out
          have hadd := addr_add nb q
          rw [hadd, hcell]
          simpa [IE.cells, ic, PE.cells] using hq
        · have := HLEN.out; unfold maxLen; omega
        · have := HLEN.out; omega
        · exact Nat.le_trans C_2.out.kb.size (Nat.le_refl _)
        intro tv' w4 hown4 hg4 hw4
        have PU := hidd (C_2.out.push (e := IE.mk x qa qc) X_2.out hown4 hg4 hw4)
        have P4 : w4.heap[P]? = some (.cells #[.int .i64 ar, tv] 47 (0, 0)) := (hg4.block P (Array.getElem?_eq_some_iff.1 C_2.out.p).1 (fun e => C_2.out.s1 e.symm)).trans C_2.out.p
        have P4H := hidd P4
        clear hown4 hg4 hw4 P4 hinf hz0 hz1 hz2
        clear C_2 X_2 AC_2
        show K _ w4
        refine hK.out _ _ trivial (fun hS => ?_)
        clear hK K
        refine wpAnyH_take (i := 6) (oi := { dst := some 17, op := Op.fieldAddr 47 (Operand.tmp 3) 1, type := 0, pos := _, after := _, guard := none }) (v := .pointer (some ⟨P, 1, none⟩)) rfl (by kernel_rfl) (by kernel_rfl) (by kernel_rfl) (fun _ _ _ h => h) (Or.inl ⟨by rfl, fun u hu => by go_simp⟩) hS ?_
        simp only [Act.put, List.setIfInBounds_toArray, List.set_cons_zero, List.set_cons_succ]
        refine wpAnyH_ready (rs := [7]) (by kernel_rfl) (by simp) (AllReadyH.cons (o := { dst := none, op := Op.store 45 (Operand.tmp 17) (Operand.tmp 16), type := 0, pos := _, after := _, guard := none }) rfl (fun K hK => ?_) AllReadyH.nil)
        have n0 : w4.cell? ⟨P, 1, none⟩ = some tv := (cellO P4H.out).trans rfl
        have nz := looseO (q := 1) P4H.out
        obtain ⟨ta, tc, htv, htc⟩ := PU.out.slice
        subst htv
        go_simp
        clear n0 nz P4H
        refine hK.out _ _ trivial (fun hS => ?_)
        clear hK K
        refine wpAnyH_done (by kernel_rfl) ?_ _
        go_wp2_with fail
        go_meet
        case rel =>
          exact ⟨_, _, PU.out, rfl⟩
      · go_simp
        have hb2 : Below W1.heap.size W1 (W1.alloc (.cells #[.int .i64 x.op, .int .i64 x.a, .int .i64 x.n, .string x.lib, .string x.own, .int .i64 x.quote.kind, .int .i64 x.quote.n, .string x.quote.name, .int .i64 x.quote.stamp, .int .i64 x.quote.lib, .slice qa x.quote.kids.length qc] 52)) := (Below.refl _ _).alloc (Nat.le_refl _) _
        have AC_2 := hidd (World.alloc_heap_new W1 (.cells #[.int .i64 x.op, .int .i64 x.a, .int .i64 x.n, .string x.lib, .string x.own, .int .i64 x.quote.kind, .int .i64 x.quote.n, .string x.quote.name, .int .i64 x.quote.stamp, .int .i64 x.quote.lib, .slice qa x.quote.kids.length qc] 52))
        have C_2 := hidd (C_1.out.below hb2)
        have X_2 := hidd (X_1.out.stay (fun k hk => hb2.block k hk.2.1) (fun k hk => (⟨hk.1, Nat.lt_of_lt_of_le hk.2.1 hb2.size, hk.2.2⟩ : w.heap.size ≤ k ∧ k < (W1.alloc (.cells #[.int .i64 x.op, .int .i64 x.a, .int .i64 x.n, .string x.lib, .string x.own, .int .i64 x.quote.kind, .int .i64 x.quote.n, .string x.quote.name, .int .i64 x.quote.stamp, .int .i64 x.quote.lib, .slice qa x.quote.kids.length qc] 52)).heap.size ∧ k ≠ P ∧ k ≠ N1 ∧ some k ≠ tv.ownBlock)))
        change K _ (W1.alloc (.cells #[.int .i64 x.op, .int .i64 x.a, .int .i64 x.n, .string x.lib, .string x.own, .int .i64 x.quote.kind, .int .i64 x.quote.n, .string x.quote.name, .int .i64 x.quote.stamp, .int .i64 x.quote.lib, .slice qa x.quote.kids.length qc] 52))
        generalize W1.alloc (.cells #[.int .i64 x.op, .int .i64 x.a, .int .i64 x.n, .string x.lib, .string x.own, .int .i64 x.quote.kind, .int .i64 x.quote.n, .string x.quote.name, .int .i64 x.quote.stamp, .int .i64 x.quote.lib, .slice qa x.quote.kids.length qc] 52) = W2 at AC_2 C_2 X_2 ⊢
        generalize W1.heap.size = nb at AC_2 ⊢
        clear hb2 C_1 X_1
        refine hK.out _ _ trivial (fun hS => ?_)
        clear hK K
        refine wpAnyH_ready (rs := [1]) (by kernel_rfl) (by simp) (AllReadyH.cons (o := { dst := some 12, op := Op.load 45 (Operand.tmp 11), type := 45, pos := _, after := _, guard := none }) rfl (fun K hK => ?_) AllReadyH.nil)
        have zt : (W2).cell? ⟨P, 1, none⟩ = some tv := (cellO C_2.out.p).trans rfl
        go_simp
        clear zt
        refine hK.out _ _ trivial (fun hS => ?_)
        clear hK K
        refine wpAnyH_ready (rs := [5]) (by kernel_rfl) (by simp) (AllReadyH.cons (o := { dst := some 16, op := Op.call { callee := Callee.builtin Builtin.append, args := #[Operand.tmp 12, Operand.tmp 15], argTypes := #[45, 45] }, type := 45, pos := _, after := _, guard := none }) rfl (fun K hK => ?_) AllReadyH.nil)
        obtain ⟨i0, hinf, hz0, hz1, hz2⟩ := info_parts infoIns
        refine step_append_where rfl (.tmp 12) (.tmp 15) 45 rfl w.heap.size 52 i0 _ 11 128 Tryz.underlying45 hinf hz0 hz1 hz2 rfl (by decide) tv es.length (es.flatMap gI.cells) rfl (by exact C_2.out.row) ⟨nb, 0, none⟩ 1 1 (IE.mk x qa qc).cells rfl rfl ?_ ONE.out (by decide) ?_ ?_ ?_ ?_
        · intro q u hq
          have hcell := cellO (q := q) AC_2.out
          have hadd := addr_add nb q
          rw [hadd, hcell]
          simpa [IE.cells, ic, PE.cells] using hq
        · have := HLEN.out; unfold maxLen; omega
        · have := HLEN.out; omega
        · exact Nat.le_trans C_2.out.kb.size (Nat.le_refl _)
        intro tv' w4 hown4 hg4 hw4
        have PU := hidd (C_2.out.push (e := IE.mk x qa qc) X_2.out hown4 hg4 hw4)
        have P4 : w4.heap[P]? = some (.cells #[.int .i64 ar, tv] 47 (0, 0)) := (hg4.block P (Array.getElem?_eq_some_iff.1 C_2.out.p).1 (fun e => C_2.out.s1 e.symm)).trans C_2.out.p
        have P4H := hidd P4
        clear hown4 hg4 hw4 P4 hinf hz0 hz1 hz2
        clear C_2 X_2 AC_2
        show K _ w4
        refine hK.out _ _ trivial (fun hS => ?_)
        clear hK K
        refine wpAnyH_take (i := 6) (oi := { dst := some 17, op := Op.fieldAddr 47 (Operand.tmp 3) 1, type := 0, pos := _, after := _, guard := none }) (v := .pointer (some ⟨P, 1, none⟩)) rfl (by kernel_rfl) (by kernel_rfl) (by kernel_rfl) (fun _ _ _ h => h) (Or.inl ⟨by rfl, fun u hu => by go_simp⟩) hS ?_
        simp only [Act.put, List.setIfInBounds_toArray, List.set_cons_zero, List.set_cons_succ]
        refine wpAnyH_ready (rs := [7]) (by kernel_rfl) (by simp) (AllReadyH.cons (o := { dst := none, op := Op.store 45 (Operand.tmp 17) (Operand.tmp 16), type := 0, pos := _, after := _, guard := none }) rfl (fun K hK => ?_) AllReadyH.nil)
        have n0 : w4.cell? ⟨P, 1, none⟩ = some tv := (cellO P4H.out).trans rfl
        have nz := looseO (q := 1) P4H.out
        obtain ⟨ta, tc, htv, htc⟩ := PU.out.slice
        subst htv
        go_simp
        clear n0 nz P4H
        refine hK.out _ _ trivial (fun hS => ?_)
        clear hK K
        refine wpAnyH_done (by kernel_rfl) ?_ _
        go_wp2_with fail
        go_meet
        case rel =>
          exact ⟨_, _, PU.out, rfl⟩
  case rest =>
    obtain ⟨tv', e, GN, HE⟩ := hcut
    have c1 : wc.cell? ⟨b, 1, none⟩ = some (.bool bad') := by
      obtain ⟨_, _, a, cap, g1, _⟩ := GN.out.rd
      exact (cellO g1).trans rfl
    have EM : Hid ((es ++ [e]).map IE.i = es.map IE.i ++ [x]) := by unfold Hid; rw [List.map_append, List.map_singleton, HE.out]
    cases bad'
    case false =>
      go_wp2_with fail
      go_roundw
      case rel =>
        refine ⟨j + 1, tv', es ++ [e], l', false, by omega, by go_num, GN.out, by have := HRE.out.1; simp; omega, by have := HLN.out; have := HRE.out.2.1; omega, ?_⟩
        have hf := HFI.out
        rw [if_neg (by simp), Option.map_map] at hf
        rw [HKJ.out, EM.out, ← hf]
        congr 1
        funext r
        simp
      case measure => simp [intOf]; omega
    case true =>
      have hf := HFI.out
      rw [if_pos rfl] at hf
      simp at hf
      obtain ⟨hx1, rfl, rfl⟩ := hf
      obtain ⟨p, p1, p2, p3, p4⟩ := GN.out.done
      have HF := hidd GN.out.fill
      have HP4 := hidd p4
      have HPP : Hid (p.pro = ⟨ar, xs⟩) := by unfold Hid PE.pro; rw [p1, p2, EM.out, hx1]
      have HAR := hidd p1
      have HTV := hidd p3
      obtain ⟨ta, tc, htv, _⟩ := GN.out.slice
      have e0 : wc.cell? ⟨P, 0, none⟩ = some (.int .i64 ar) := (cellO GN.out.p).trans rfl
      have e1 : wc.cell? ⟨P, 1, none⟩ = some tv' := (cellO GN.out.p).trans rfl
      have d0 : wc.cell? ⟨N1, 0, none⟩ = some (.int .i64 0) := (cellO GN.out.n1).trans rfl
      have d1 : wc.cell? ⟨N1, 1, none⟩ = some (.slice none 0 0) := (cellO GN.out.n1).trans rfl
      have z0 := looseO (q := 0) GN.out.n1
      have z1 := looseO (q := 1) GN.out.n1
      clear p1 p2 p3 p4 GN HRE HFI hx1 EM GR3
      subst htv
      go_wp2_with fail
      refine bodyPost_ret (ret62 HF.out.1 rfl) rfl ⟨p, ?_, HPP.out, HF.out.2.1, HF.out.2.2.1, HP4.out⟩
      rw [HTV.out, HAR.out]
end
end Go.Proofs.YtfmanhkeclogfaaGreatDoor
