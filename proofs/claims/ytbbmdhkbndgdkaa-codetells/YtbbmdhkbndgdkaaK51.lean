/- WHAT THE DOCUMENT'S CODE IS. The document's Compile: what it has in memory. -/
import Derived.Test.YtbbmdhkbndgdkaaK50
namespace Go.Proofs.Ytbbmdhkbndgdkaa
section
set_option linter.unusedVariables false
set_option linter.unusedSimpArgs false
open Go.RowKit

theorem siz_pos : ∀ (c : Cor), okC c → 1 ≤ sizC c
  | ⟨k, i, n, lb, ow, q, ks⟩, h => by
    rw [okC] at h
    rw [sizC]
    by_cases h8 : k = 8
    · rw [if_pos h8]; exact Nat.le_refl _
    · rw [if_neg h8]
      by_cases h7 : k = 7
      · rw [if_pos h7]; omega
      · rw [if_neg h7]
        by_cases h12 : k = 12
        · rw [if_pos h12]
          subst h12
          have hks := wk12 h.1
          match ks, hks, h.2 with
          | c :: r, _, h2 =>
            rw [okL] at h2
            have := siz_pos c h2.1
            rw [sizL]
            simp
            omega
        · rw [if_neg h12]; omega
theorem okL_siz : ∀ (l : List Cor), okL l → l.length ≤ sizL l
  | [], _ => Nat.zero_le _
  | c :: r, h => by
    rw [okL] at h
    have h1 := siz_pos c h.1
    have h2 := okL_siz r h.2
    rw [sizL, List.length_cons]
    omega
theorem Code_step (B0 B f fq : Nat) (hB : B0 ≤ B) (X : Nat → Prop) (G : Nat) (pv av : Value) (ps : List PE) (c : Cor) (qa ka : Option Addr) (qc kc : Nat) (w : World) (hC : c.kids ≠ [] → CodeW B0 B f) (okc : okC c) (smc : smC c) (stc : stC c) (hsz : sizC c ≤ 10000000) (hlm : ps.length + lamC c ≤ 10000000) (hln : lonC c ≤ 10000000)
    (nok : NcOk c qc kc) (hq : Dc (fun k => k < B0) w fq qa c.quote.kids) (hk : Cc B0 w (f + 1) ka c.kids) (h : GS B X G pv av ps w) :
    Calls Try.prog 20 #[.pointer (some ⟨G, 0, none⟩), .agg (cva c qa qc ka kc)] w (ToldG B X G pv av ps (genC c 0 ps.length) w) := by
  obtain ⟨k, i, nn, lb, ow, q, ks⟩ := c
  rw [okC] at okc
  rw [smC] at smc
  rw [stC] at stc
  rw [sizC] at hsz
  rw [lamC] at hlm
  rw [lonC] at hln
  obtain ⟨hw, okk⟩ := okc
  obtain ⟨_, _, smq, smk⟩ := smc
  obtain ⟨stq, stk⟩ := stc
  obtain ⟨n1, n2, n3, n4, n5⟩ := nok
  simp only at n1 n2 n3 n4 n5 hq hk hC
  by_cases e1 : k = 1
  · subst e1
    have hks : ks = [] := by unfold wkids at hw; simp at hw; exact hw
    subst hks
    exact Code_1 B X G pv av ps i nn lb ow q qa ka qc kc w n1 n2 h
  by_cases e2 : k = 2
  · subst e2
    have hks : ks = [] := by unfold wkids at hw; simp at hw; exact hw
    subst hks
    exact Code_2 B X G pv av ps i nn lb ow q qa ka qc kc w n1 n2 h
  by_cases e4 : k = 4
  · subst e4
    have hks : ks = [] := by unfold wkids at hw; simp at hw; exact hw
    subst hks
    exact Code_4 B X G pv av ps i nn lb ow q qa ka qc kc w n1 n2 h
  by_cases e5 : k = 5
  · subst e5
    have hks : ks = [] := by unfold wkids at hw; simp at hw; exact hw
    subst hks
    exact Code_5 B X G pv av ps i nn lb ow q qa ka qc kc w n1 n2 h
  by_cases e6 : k = 6
  · subst e6
    have hks : ks = [] := by unfold wkids at hw; simp at hw; exact hw
    subst hks
    exact Code_6 B X G pv av ps i nn lb ow q qa ka qc kc w n1 n2 h
  by_cases e3 : k = 3
  · subst e3
    have hks : ks = [] := by unfold wkids at hw; simp at hw; exact hw
    subst hks
    exact Code_3 B0 B fq hB X G pv av ps i nn lb ow q qa ka qc kc w n4 n3 hq (smq rfl) (stq rfl) h
  by_cases e10 : k = 10
  · subst e10
    have hks : ks.length = 1 := by unfold wkids at hw; simp at hw; exact hw
    obtain ⟨x, rfl⟩ := List.length_eq_one_iff.1 hks
    simp only [okL, smCL, stCL, sizL, lamL, lonL, Int.reduceEq, if_false, if_true, Nat.add_zero, Nat.max_zero, Nat.zero_add] at okk smk stk hsz hlm hln
    exact Code_10 B0 B f hB (hC (by simp)) X G pv av ps i nn lb ow q x qa ka qc kc w n1 n2 hk n5 okk.1 smk.1 stk.1 (by omega) (by omega) (by omega) h
  by_cases e11 : k = 11
  · subst e11
    have hks : ks.length = 1 := by unfold wkids at hw; simp at hw; exact hw
    obtain ⟨x, rfl⟩ := List.length_eq_one_iff.1 hks
    simp only [okL, smCL, stCL, sizL, lamL, lonL, Int.reduceEq, if_false, if_true, Nat.add_zero, Nat.max_zero, Nat.zero_add] at okk smk stk hsz hlm hln
    exact Code_11 B0 B f hB (hC (by simp)) X G pv av ps i nn lb ow q x qa ka qc kc w n1 n2 hk n5 okk.1 smk.1 stk.1 (by omega) (by omega) (by omega) h
  by_cases e13 : k = 13
  · subst e13
    have hks : ks.length = 1 := by unfold wkids at hw; simp at hw; exact hw
    obtain ⟨x, rfl⟩ := List.length_eq_one_iff.1 hks
    simp only [okL, smCL, stCL, sizL, lamL, lonL, Int.reduceEq, if_false, if_true, Nat.add_zero, Nat.max_zero, Nat.zero_add] at okk smk stk hsz hlm hln
    exact Code_13 B0 B f hB (hC (by simp)) X G pv av ps i nn lb ow q x qa ka qc kc w n1 n2 hk n5 okk.1 smk.1 stk.1 (by omega) (by omega) (by omega) h
  by_cases e8 : k = 8
  · subst e8
    have hks : ks.length = 1 := wk8 hw
    obtain ⟨x, rfl⟩ := List.length_eq_one_iff.1 hks
    simp only [okL, smCL, stCL, sizL, lamL, lonL, Int.reduceEq, if_false, if_true, Nat.add_zero, Nat.max_zero, Nat.zero_add] at okk smk stk hsz hlm hln
    exact Code_8 B0 B f hB (hC (by simp)) X G pv av ps i nn lb ow q x qa ka qc kc w hk n5 okk.1 smk.1 stk.1 (by omega) (by omega) (by omega) h
  by_cases e7 : k = 7
  · subst e7
    have hks : ks.length = 3 := wk7 hw
    match ks, hks with
    | [x, y, z], _ =>
      simp only [Int.reduceEq, if_false, if_true, Nat.max_zero, Nat.zero_add] at hsz hlm hln
      exact Code_7 B0 B f hB (hC (by simp)) X G pv av ps i nn lb ow q x y z qa ka qc kc w hk n5 okk smk stk hsz hlm hln h
  by_cases e9 : k = 9
  · subst e9
    have hks : 1 ≤ ks.length := by
      unfold wkids at hw
      simp only [Int.reduceEq, or_self, if_false, true_or, if_true] at hw
      split at hw
      · assumption
      · simp at hw
    simp only [Int.reduceEq, if_false, Nat.max_zero, Nat.zero_add] at hsz hlm hln
    have hkl := okL_siz ks okk
    exact Code_9 B0 B f hB X G pv av ps i nn lb ow q ks hC qa ka qc kc w hk n5 hks okk smk stk (by omega) (by omega) hlm hln h
  by_cases e12 : k = 12
  · subst e12
    have hks : 1 ≤ ks.length := by
      unfold wkids at hw
      simp only [Int.reduceEq, or_self, if_false, or_true, if_true] at hw
      split at hw
      · assumption
      · simp at hw
    simp only [Int.reduceEq, if_false, if_true, Nat.max_zero, Nat.zero_add] at hsz hlm hln
    exact Code_12 B0 B f hB X G pv av ps i nn lb ow q ks hC qa ka qc kc w hk n5 hks okk smk stk (by omega) hlm hln h
  exfalso
  unfold wkids at hw
  rw [if_neg (by omega), if_neg (by omega), if_neg (by omega), if_neg (by omega)] at hw
  simp at hw
theorem Code_any (B0 B : Nat) (hB : B0 ≤ B) : ∀ (f : Nat), CodeW B0 B f
  | 0 => fun X G pv av ps c qa ka qc kc w okc smc stc hsz hlm hln hcv h =>
    Code_step B0 B 0 0 hB X G pv av ps c qa ka qc kc w (fun hne => absurd (show c.kids = [] from hcv.2.2) hne) okc smc stc hsz hlm hln hcv.1 hcv.2.1 (CcMore _ _ _ hcv.2.2) h
  | f + 1 => fun X G pv av ps c qa ka qc kc w okc smc stc hsz hlm hln hcv h =>
    Code_step B0 B f (f + 1) hB X G pv av ps c qa ka qc kc w (fun _ => Code_any B0 B hB f) okc smc stc hsz hlm hln hcv.1 hcv.2.1 hcv.2.2 h
end
section
set_option linter.unusedVariables false
set_option linter.unusedSimpArgs false
open Go.RowKit

/-- Instructions are appended to a row, and nothing else is done. -/
theorem RowR.more {B0 : Nat} {O : Nat → Prop} {rv rv' : Value} {es fs : List IE} {w w2 w4 : World} (h : RowR B0 O rv es w) (h2 : Below w.heap.size w w2) (hB : B0 ≤ w.heap.size) (hO : ∀ b, O b → b < w.heap.size) (hfs : ∀ e ∈ fs, e.Ok (fun b => b < w.heap.size ∧ ¬ (O b ∨ some b = rv.ownBlock)) w)
    (hown : w4.ownsRow B0 46 11 rv' (es.length + fs.length) (flatI es ++ flatI fs)) (hg : w2.grownBy w4 rv.ownBlock) (hw : rv'.ownBlock = rv.ownBlock ∨ rv'.ownBlock = some w2.heap.size) :
    RowR B0 O rv' (es ++ fs) w4 ∧ Fm (fun b => some b = rv.ownBlock) (fun b => some b = rv'.ownBlock) B0 w w4 := by
  have hs2 := h2.size
  have hs4 := hg.size
  have kn : ∀ b, b < w.heap.size → ¬ some b = rv.ownBlock → w4.heap[b]? = w.heap[b]? := fun b hb ho => (hg.block b (by omega) ho).trans (h2.block b hb)
  refine ⟨⟨?_, fun g hg2 e2 => ?_, fun f hf => ?_⟩, (h2.mono hB).trans ((Below.refl B0 w2).grown hg (by omega) (fun k hk => (h.own.lt k hk).1)), kn, fun b hb ho => ?_⟩
  · rw [flatI_append, List.length_append]
    exact hown
  · rcases hw with e3 | e3
    · exact h.nb g (e3 ▸ hg2) e2
    · rw [e3] at hg2
      have := Option.some.inj hg2
      have := hO g e2
      omega
  · have h1 : f.Ok (fun b => b < w.heap.size ∧ ¬ (O b ∨ some b = rv.ownBlock)) w := by
      rcases List.mem_append.1 hf with hf | hf
      · exact h.ok f hf
      · exact hfs f hf
    refine h1.stay (fun b hb => kn b hb.1 (fun o => hb.2 (Or.inr o))) (fun b hb => ⟨by have := hb.1; omega, fun e4 => hb.2 (e4.elim Or.inl (fun o => ?_))⟩)
    rcases hw with e3 | e3
    · rw [e3] at o; exact Or.inr o
    · rw [e3] at o; have := Option.some.inj o; have := hb.1; omega
  · rcases hw with e3 | e3
    · rw [e3] at ho; exact ho
    · rw [e3] at ho; have := Option.some.inj ho; omega
theorem RowR.below {B0 : Nat} {O : Nat → Prop} {rv : Value} {es : List IE} {w w' : World} (h : RowR B0 O rv es w) (hb : Below w.heap.size w w') : RowR B0 O rv es w' :=
  h.other (fun b hl _ => hb.block b hl) hb.size
/-- The body being made: its code in one row, the procedures in it in the others. -/
structure LB (B G : Nat) (w0 : World) (P U : Obj) (pv av bv : Value) (bs : List IE) (ps : List PE) (w : World) : Prop where
  gs : GS B (fun b => b = B + 1 ∨ some b = bv.ownBlock) G pv av ps w
  row : RowR B (fun b => OG G pv av b ∨ b = B + 1) bv bs w
  low : Below B w0 w
  pb : Nb (fun b => OG G pv av b ∨ some b = bv.ownBlock) B P w
  ub : Nb (fun b => OG G pv av b ∨ some b = bv.ownBlock) (B + 1) U w
theorem Fm.two {O O' : Nat → Prop} {B : Nat} {w w' : World} {P : Nat → Prop} (h : Fm O O' B w w') : Fm (fun b => O b ∨ P b) (fun b => O' b ∨ P b) B w w' := h.wide
theorem LB.below {B G : Nat} {w0 : World} {P U : Obj} {pv av bv : Value} {bs : List IE} {ps : List PE} {w w' : World} (h : LB B G w0 P U pv av bv bs ps w) (hb : Below w.heap.size w w') : LB B G w0 P U pv av bv bs ps w' :=
  ⟨h.gs.below hb, h.row.below hb, h.low.trans (hb.mono h.gs.ble), h.pb.move (Fm.of_below hb h.gs.ble), h.ub.move (Fm.of_below hb h.gs.ble)⟩
/-- An expression's code was made. -/
theorem LB.call {B G : Nat} {w0 : World} {P U : Obj} {pv av bv : Value} {bs : List IE} {ps : List PE} {w w' : World} {g : List In × List Pro} {e : Ending} (h : LB B G w0 P U pv av bv bs ps w) (hc : ToldG B (fun b => b = B + 1 ∨ some b = bv.ownBlock) G pv av ps g w e w') :
    ∃ pv2 av2 ps2 rv is, e = .returned rv ∧ LB B G w0 P U pv2 av2 bv bs (ps ++ ps2) w' ∧ RowR w.heap.size (fun b => OG G pv2 av2 b ∨ (b = B + 1 ∨ some b = bv.ownBlock)) rv is w' ∧ is.map IE.i = g.1 ∧ ps2.map PE.pro = g.2 := by
  obtain ⟨pv2, av2, ps2, rv, is, rfl, gs2, row, h1, h2, fm2⟩ := hc
  exact ⟨pv2, av2, ps2, rv, is, rfl, ⟨gs2.less (fun b e => Or.inl e), h.row.move fm2.two, h.low.trans fm2.low, h.pb.move fm2.two, h.ub.move fm2.two⟩, row, h1, h2⟩
/-- The body grows. -/
theorem LB.grow {B G : Nat} {w0 : World} {P U : Obj} {pv av bv bv2 : Value} {bs fs : List IE} {ps : List PE} {w w2 w4 : World} (h : LB B G w0 P U pv av bv bs ps w) (h2 : Below w.heap.size w w2) (hfs : ∀ e ∈ fs, e.Ok (fun b => b < w.heap.size ∧ ¬ ((OG G pv av b ∨ b = B + 1) ∨ some b = bv.ownBlock)) w)
    (hown : w4.ownsRow B 46 11 bv2 (bs.length + fs.length) (flatI bs ++ flatI fs)) (hg : w2.grownBy w4 bv.ownBlock) (hw : bv2.ownBlock = bv.ownBlock ∨ bv2.ownBlock = some w2.heap.size) : LB B G w0 P U pv av bv2 (bs ++ fs) ps w4 := by
  obtain ⟨row4, fm4⟩ := h.row.more h2 h.gs.ble (fun b e => e.elim (fun e => (h.gs.oglt e).2) (fun e => h.gs.xlt b (Or.inl e))) hfs hown hg hw
  have hs := fm4.low.size
  have fo : Fm (fun b => OG G pv av b ∨ some b = bv.ownBlock) (fun b => OG G pv av b ∨ some b = bv2.ownBlock) B w w4 := ⟨fm4.low, fun b hb ho => fm4.keep b hb (fun e => ho (Or.inr e)), fun b hb ho => ho.elim Or.inl (fun e => Or.inr (fm4.own b hb e))⟩
  refine ⟨?_, row4, h.low.trans fm4.low, h.pb.move fo, h.ub.move fo⟩
  refine h.gs.other (fun b hb hh => fm4.keep b hb (fun e => ?_)) hs (fun b e => e.elim (fun e => Nat.lt_of_lt_of_le (h.gs.xlt b (Or.inl e)) hs) (fun e => (row4.own.lt b e.symm).2)) (fun b hb hn e => hn (Or.inr (e.elim Or.inl (fun e => Or.inr (fm4.own b hb e)))))
  rcases hh with o | o
  · exact h.row.nb b e.symm (Or.inl o)
  · exact o (Or.inr (Or.inr e))
theorem GS.start (B : Nat) (X : Nat → Prop) (w : World) (hB : B ≤ w.heap.size) (hX : ∀ b, X b → b < w.heap.size) : GS B X (w.heap.size + 1 + 1) (.slice (some ⟨w.heap.size, 0, none⟩) 1 1) (.slice (some ⟨w.heap.size + 1, 0, none⟩) 1 1) [PE.mk 0 [] none 0] (((w.alloc (.cells #[.slice none 0 0] 42)).alloc (.cells #[.int .i64 0] 3)).alloc (.cells #[.slice (some ⟨w.heap.size, 0, none⟩) 1 1, .slice (some ⟨w.heap.size + 1, 0, none⟩) 1 1] 60)) := by
  have e1 : (w.alloc (.cells #[.slice none 0 0] 42)).heap.size = w.heap.size + 1 := by simp
  have e2 : ((w.alloc (.cells #[.slice none 0 0] 42)).alloc (.cells #[.int .i64 0] 3)).heap.size = w.heap.size + 1 + 1 := by simp
  have b0 : (((w.alloc (.cells #[.slice none 0 0] 42)).alloc (.cells #[.int .i64 0] 3)).alloc (.cells #[.slice (some ⟨w.heap.size, 0, none⟩) 1 1, .slice (some ⟨w.heap.size + 1, 0, none⟩) 1 1] 60)).heap[w.heap.size]? = some (.cells #[.slice none 0 0] 42 (0, 0)) := (Below.heap_alloc _ _ _ (by simp; omega)).trans ((Below.heap_alloc _ _ _ (by simp)).trans (World.alloc_heap_new w _))
  have b1 : (((w.alloc (.cells #[.slice none 0 0] 42)).alloc (.cells #[.int .i64 0] 3)).alloc (.cells #[.slice (some ⟨w.heap.size, 0, none⟩) 1 1, .slice (some ⟨w.heap.size + 1, 0, none⟩) 1 1] 60)).heap[w.heap.size + 1]? = some (.cells #[.int .i64 0] 3 (0, 0)) := by
    refine (Below.heap_alloc _ _ _ (by simp)).trans ?_
    have := World.alloc_heap_new (w.alloc (.cells #[.slice none 0 0] 42)) (.cells #[.int .i64 0] 3)
    rwa [e1] at this
  have b2 := World.alloc_heap_new ((w.alloc (.cells #[.slice none 0 0] 42)).alloc (.cells #[.int .i64 0] 3)) (.cells #[.slice (some ⟨w.heap.size, 0, none⟩) 1 1, .slice (some ⟨w.heap.size + 1, 0, none⟩) 1 1] 60)
  rw [e2] at b2
  refine ⟨b2, by omega, ⟨rfl, Or.inr ⟨w.heap.size, 1, #[.slice none 0 0], rfl, hB, b0, Nat.le_refl _, by unfold maxLen; decide, rfl, rfl⟩⟩, ⟨rfl, Or.inr ⟨w.heap.size + 1, 1, #[.int .i64 0], rfl, by omega, b1, Nat.le_refl _, by unfold maxLen; decide, rfl, rfl⟩⟩, by simp [Value.ownBlock]; omega, by simp [Value.ownBlock], by simp [Value.ownBlock], fun b h => by have := hX b h; simp; omega, ?_⟩
  intro p hp
  simp at hp
  subst hp
  exact ⟨Nat.le_refl _, Or.inl rfl, by simp⟩
/-- The unit being made. -/
structure AU (Q : Nat) (nm : ByteArray) (uv : Value) (ps : List PE) (w : World) : Prop where
  box : w.heap[Q]? = some (.cells #[.string nm, uv] 27 (0, 0))
  row : w.ownsRow Q 44 2 uv ps.length (flatP ps)
  sep : uv.ownBlock ≠ some Q
theorem AU.lt {Q : Nat} {nm : ByteArray} {uv : Value} {ps : List PE} {w : World} (h : AU Q nm uv ps w) : Q < w.heap.size := (Array.getElem?_eq_some_iff.1 h.box).1
theorem AU.below {Q : Nat} {nm : ByteArray} {uv : Value} {ps : List PE} {w w' : World} (h : AU Q nm uv ps w) (hb : Below w.heap.size w w') : AU Q nm uv ps w' := ⟨(hb.block _ h.lt).trans h.box, own_below h.row hb, h.sep⟩
theorem AU.push {Q : Nat} {nm : ByteArray} {uv uv' : Value} {ps : List PE} {p : PE} {w w2 w4 : World} (h : AU Q nm uv ps w) (h2 : Below w.heap.size w w2) (hown : w4.ownsRow Q 44 2 uv' (ps.length + 1) (flatP ps ++ p.cells)) (hg : w2.grownBy w4 uv.ownBlock) (hw : uv'.ownBlock = uv.ownBlock ∨ uv'.ownBlock = some w2.heap.size) :
    AU Q nm uv' (ps ++ [p]) (w4.setCell ⟨Q, 1, none⟩ uv') ∧ Below Q w (w4.setCell ⟨Q, 1, none⟩ uv') := by
  have m2 := h.below h2
  have hs2 := h2.size
  have hs4 := hg.size
  have hlt := m2.lt
  have hke : Keep Q w4 (w4.setCell ⟨Q, 1, none⟩ uv') := (Keep.refl _ _).setCell _ rfl _
  have hne : uv'.ownBlock ≠ some Q := by
    rcases hw with e | e
    · rw [e]; exact h.sep
    · rw [e]; intro e2; have := Option.some.inj e2; omega
  refine ⟨⟨?_, ?_, hne⟩, (h2.mono (by have := h.lt; omega)).trans (((Below.refl Q w2).grown hg (by omega) (fun k hk => (m2.row.lt k hk).1)).trans (hke.toBelow (Nat.le_refl _) (by omega)))⟩
  · exact heap_setCell_same w4 Q 1 #[.string nm, uv] 27 uv' ((hg.block Q hlt (fun e => h.sep e.symm)).trans m2.box)
  · have e1 : flatP (ps ++ [p]) = flatP ps ++ p.cells := by simp [flatP]
    rw [e1, List.length_append]
    exact hown.kept hke (Or.inr (by simpa using hne))
end
end Go.Proofs.Ytbbmdhkbndgdkaa
