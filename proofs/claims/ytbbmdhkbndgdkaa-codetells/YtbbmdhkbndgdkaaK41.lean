/- The document's code: instructions moved, and put behind others. -/
import Derived.Test.YtbbmdhkbndgdkaaK39
import Derived.Test.YtbbmdhkbndgdkaaK40
namespace Go.Proofs.Ytbbmdhkbndgdkaa
set_option linter.unusedVariables false
set_option linter.unusedSimpArgs false
open Go.RowKit

/-- What changes: of the old blocks only those that are owned; what is owned later was owned, or is new. -/
structure Fm (O O' : Nat → Prop) (B : Nat) (w w' : World) : Prop where
  low : Below B w w'
  keep : ∀ b, b < w.heap.size → ¬ O b → w'.heap[b]? = w.heap[b]?
  own : ∀ b, b < w.heap.size → O' b → O b
theorem Fm.refl (O : Nat → Prop) (B : Nat) (w : World) : Fm O O B w w := ⟨Below.refl _ _, fun _ _ _ => rfl, fun _ _ h => h⟩
theorem Fm.trans {O O1 O2 : Nat → Prop} {B : Nat} {w w1 w2 : World} (h : Fm O O1 B w w1) (k : Fm O1 O2 B w1 w2) : Fm O O2 B w w2 :=
  ⟨h.low.trans k.low, fun b hb ho => (k.keep b (Nat.lt_of_lt_of_le hb h.low.size) (fun e => ho (h.own b hb e))).trans (h.keep b hb ho), fun b hb e => h.own b hb (k.own b (Nat.lt_of_lt_of_le hb h.low.size) e)⟩
theorem Fm.of_below {O : Nat → Prop} {B : Nat} {w w' : World} (hb : Below w.heap.size w w') (hB : B ≤ w.heap.size) : Fm O O B w w' := ⟨hb.mono hB, fun b h _ => hb.block b h, fun _ _ h => h⟩
theorem Fm.wide {O O' P : Nat → Prop} {B : Nat} {w w' : World} (h : Fm O O' B w w') : Fm (fun b => O b ∨ P b) (fun b => O' b ∨ P b) B w w' :=
  ⟨h.low, fun b hb ho => h.keep b hb (fun e => ho (Or.inl e)), fun b hb e => e.elim (fun e => Or.inl (h.own b hb e)) Or.inr⟩
theorem IE.Ok.move {O O' : Nat → Prop} {B : Nat} {w w' : World} {e : IE} (h : e.Ok (fun b => b < w.heap.size ∧ ¬ O b) w) (hm : Fm O O' B w w') : e.Ok (fun b => b < w'.heap.size ∧ ¬ O' b) w' :=
  h.stay (fun k hk => hm.keep k hk.1 hk.2) (fun k hk => ⟨Nat.lt_of_lt_of_le hk.1 hm.low.size, fun e => hk.2 (hm.own k hk.1 e)⟩)
theorem PE.Ok.move {O O' : Nat → Prop} {B : Nat} {w w' : World} {e : PE} (h : e.Ok (fun b => b < w.heap.size ∧ ¬ O b) w) (hm : Fm O O' B w w') : e.Ok (fun b => b < w'.heap.size ∧ ¬ O' b) w' :=
  h.stay (fun k hk => hm.keep k hk.1 hk.2) (fun k hk => ⟨Nat.lt_of_lt_of_le hk.1 hm.low.size, fun e => hk.2 (hm.own k hk.1 e)⟩)
/-- An instruction so much on, where it lies. -/
def onE (n : Nat) (e : IE) : IE := ⟨onI n 0 e.i, e.qa, e.qc⟩
theorem onE_ok {ok : Nat → Prop} {w : World} {n : Nat} {e : IE} (h : e.Ok ok w) : (onE n e).Ok ok w := by
  obtain ⟨o1, o2, o3, o4, o5⟩ := h
  exact ⟨o1, o2, o3, o4, o5⟩
theorem onE_map (n : Nat) (l : List IE) : (l.map (onE n)).map IE.i = (l.map IE.i).map (onI n 0) := by simp [onE]
theorem onI_noj {n : Nat} {x : In} (h9 : x.op ≠ 9) (h10 : x.op ≠ 10) : onI n 0 x = x := by
  by_cases h7 : x.op = 7
  · rw [onI_clos h7]; simp
  · exact onI_else h9 h10 h7
/-- Where a row of instructions may be read. -/
def Rd (w : World) (a : Option Addr) (is : List IE) : Prop := is = [] ∨ ∃ b, a = some ⟨b, 0, none⟩ ∧ b < w.heap.size ∧ ∀ j u, (flatI is)[j]? = some u → w.cell? ⟨b, j, none⟩ = some u
theorem Rd.below {w w' : World} {a : Option Addr} {is : List IE} (h : Rd w a is) (hb : Below w.heap.size w w') : Rd w' a is := by
  rcases h with h | ⟨b, h1, h2, h3⟩
  · exact Or.inl h
  · exact Or.inr ⟨b, h1, Nat.lt_of_lt_of_le h2 hb.size, fun j u hu => (hb.cell (p := ⟨b, j, none⟩) h2).trans (h3 j u hu)⟩
theorem Rd.of_own {w : World} {B n c : Nat} {a : Option Addr} {is : List IE} (h : w.ownsRow B 46 11 (.slice a n c) is.length (flatI is)) : Rd w a is := by
  by_cases h0 : is = []
  · exact Or.inl h0
  · obtain ⟨g, vc, e, _, _, hg, _, hc⟩ := own_at h (List.length_pos_iff.2 h0)
    simp at e
    exact Or.inr ⟨g, e.1, hg, hc⟩
theorem ic_at {w : World} {b : Nat} {is : List IE} (h : ∀ j u, (flatI is)[j]? = some u → w.cell? ⟨b, j, none⟩ = some u) {k : Nat} {e : IE} (he : is[k]? = some e) : Ic w b (k * 11) e.i e.qa e.qc :=
  ⟨h _ _ (flatI_at k he 0 _ rfl), h _ _ (flatI_at k he 1 _ rfl), h _ _ (flatI_at k he 2 _ rfl), h _ _ (flatI_at k he 3 _ rfl), h _ _ (flatI_at k he 4 _ rfl), h _ _ (flatI_at k he 5 _ rfl), h _ _ (flatI_at k he 6 _ rfl), h _ _ (flatI_at k he 7 _ rfl), h _ _ (flatI_at k he 8 _ rfl), h _ _ (flatI_at k he 9 _ rfl), h _ _ (flatI_at k he 10 _ rfl)⟩

set_option maxRecDepth 100000 in
set_option maxHeartbeats 3200000 in
theorem moved_any (is : List IE) (a : Option Addr) (c n : Nat) (w : World) (hsrc : Rd w a is) (hcap : is.length ≤ c) (hn : is.length ≤ 100000000) (hby : n ≤ 100000000) (hjb : ∀ e ∈ is, (e.i.op = 9 ∨ e.i.op = 10) → 0 ≤ e.i.a ∧ e.i.a ≤ 1000000000) :
    Calls Try.prog 21 #[.slice a is.length c, .int .i64 n] w fun e w' => ∃ rv, e = .returned rv ∧ Below w.heap.size w w' ∧ w'.ownsRow w.heap.size 46 11 rv is.length (flatI (is.map (onE n))) := by
  have SR := hidd hsrc
  have HJ := hidd hjb
  clear hsrc hjb
  obtain ⟨i1, jinf, jz0, jz1, jz2⟩ := info_parts infoIns
  go_enter Try.func21, Try.ntmps21
  go_wp2_with fail
  go_loopw [5, 10] (fun v ix wr => ∃ (j : Nat) (sa : Option Addr) (sc : Nat), j ≤ is.length ∧ ix = .int .i64 j ∧ v = .slice sa j sc ∧ j ≤ sc ∧ Hid (Below w.heap.size w wr) ∧ Hid (wr.ownsRow w.heap.size 46 11 (.slice sa j sc) j (flatI ((is.take j).map (onE n))))) (fun _ ix _ => is.length - (intOf ix).toNat)
  case atStart => exact ⟨0, none, 0, Nat.zero_le _, rfl, rfl, Nat.le_refl _, Below.refl _ _, World.ownsRow_nil _ _ _ _⟩
  case round =>
    obtain ⟨j, sa, sc, hj, rfl, rfl, hsc, HB, HR⟩ := hrel
    by_cases hlt : j < is.length
    · obtain ⟨e, he⟩ : ∃ e, is[j]? = some e := ⟨is[j], List.getElem?_eq_getElem hlt⟩
      obtain ⟨b, ha, hb, hc⟩ := SR.out.resolve_left (by intro h; rw [h] at hlt; simp at hlt)
      subst ha
      have ic0 := ic_at hc he
      have hjx := HJ.out e (List.mem_of_getElem? he)
      have TK := hidd (take_more he)
      obtain ⟨x, xq, xc⟩ := e
      simp only at ic0 hjx
      have k0 := (HB.out.cell (p := ⟨b, j * 11, none⟩) hb).trans ic0.c0
      have k1 := (HB.out.cell (p := ⟨b, j * 11 + 1, none⟩) hb).trans ic0.c1
      have k2 := (HB.out.cell (p := ⟨b, j * 11 + 2, none⟩) hb).trans ic0.c2
      have k3 := (HB.out.cell (p := ⟨b, j * 11 + 3, none⟩) hb).trans ic0.c3
      have k4 := (HB.out.cell (p := ⟨b, j * 11 + 4, none⟩) hb).trans ic0.c4
      have k5 := (HB.out.cell (p := ⟨b, j * 11 + 5, none⟩) hb).trans ic0.c5
      have k6 := (HB.out.cell (p := ⟨b, j * 11 + 6, none⟩) hb).trans ic0.c6
      have k7 := (HB.out.cell (p := ⟨b, j * 11 + 7, none⟩) hb).trans ic0.c7
      have k8 := (HB.out.cell (p := ⟨b, j * 11 + 8, none⟩) hb).trans ic0.c8
      have k9 := (HB.out.cell (p := ⟨b, j * 11 + 9, none⟩) hb).trans ic0.c9
      have k10 := (HB.out.cell (p := ⟨b, j * 11 + 10, none⟩) hb).trans ic0.c10
      have HO : Hid (∀ W, Below wr.heap.size wr W → W.ownsRow w.heap.size 46 11 (.slice sa j sc) j (flatI ((is.take j).map (onE n))) ∧ w.heap.size ≤ W.heap.size) := fun W hb => ⟨own_below HR.out hb, Nat.le_trans HB.out.size hb.size⟩
      have PUSH : Hid (∀ W v' w' A, Below wr.heap.size wr W → w'.ownsRow w.heap.size 46 11 v' (j + 1) (flatI ((is.take j).map (onE n)) ++ (IE.mk A xq xc).cells) → W.grownBy w' (Value.slice sa j sc).ownBlock → onI n 0 x = A → ∃ (sa' : Option Addr) (sc' : Nat), v' = .slice sa' (j + 1) sc' ∧ j + 1 ≤ sc' ∧ Hid (Below w.heap.size w w') ∧ Hid (w'.ownsRow w.heap.size 46 11 (.slice sa' (j + 1) sc') (j + 1) (flatI ((is.take (j + 1)).map (onE n))))) := by
        intro W v' w' A hb ho hg hA
        obtain ⟨sa', sc', hv, hs'⟩ := own_slice ho
        refine ⟨sa', sc', hv, hs', (HB.out.trans (hb.mono HB.out.size)).trans ((Below.refl w.heap.size W).grown hg (Nat.le_trans HB.out.size hb.size) (fun k hk => (HR.out.lt k hk).1)), ?_⟩
        show World.ownsRow _ _ _ _ _ _ _
        rw [← hv, TK.out, List.map_append, flatI_append]
        have : flatI [onE n ⟨x, xq, xc⟩] = (IE.mk A xq xc).cells := by rw [← hA]; simp [flatI, onE]
        rw [List.map_singleton, this]
        exact ho
      have hwr : w.heap.size ≤ wr.heap.size := HB.out.size
      clear ic0 he HR HB TK hc
      by_cases o9 : x.op = 9
      · have EQ : Hid (onI n 0 x = { x with a := x.a + (n : Int) }) := onI_jump (Or.inl o9)
        have f9 : (x.op == 9) = true := by simpa using o9
        have a9 := hjx (Or.inl o9)
        have wx : IntKind.i64.wrap (x.a + n) = x.a + n := wrapI (by omega) (by omega)
        clear o9 hjx
        go_wp2_with (at_builtin; refine wpList_row rfl _ _ 42 rfl w.heap.size 46 i1 _ 11 128 Try.underlying42 jinf jz0 jz1 jz2 rfl (by decide) (.slice sa j sc) j (flatI ((is.take j).map (onE n))) rfl (HO.out _ (((Below.refl _ _).alloc (Nat.le_refl _) _).alloc (by simp) _)).1 (some ⟨wr.heap.size + 1, 0, none⟩) 1 1 (IE.mk { x with a := x.a + (n : Int) } xq xc).cells rfl rfl (Or.inr ⟨wr.heap.size + 1, 0, rfl, alloc2_cells wr _ _ _ _ rfl⟩) (IE.one _) (by unfold maxLen; omega) (by omega) (HO.out _ (((Below.refl _ _).alloc (Nat.le_refl _) _).alloc (by simp) _)).2 ?_)
        intro v7 w7 ho7 hg7 hw7
        obtain ⟨sa', sc', rfl, hsc', HB', HR'⟩ := PUSH.out _ v7 w7 _ (((Below.refl _ _).alloc (Nat.le_refl _) _).alloc (by simp) _) (by rw [List.map_take]; exact ho7) hg7 EQ.out
        clear ho7 hg7 hw7 EQ PUSH HO k0 k1 k2 k3 k4 k5 k6 k7 k8 k9 k10
        go_wp2_with fail
        go_roundw
        case rel => exact ⟨j + 1, sa', sc', by omega, by go_num, rfl, hsc', HB', HR'⟩
        case measure => simp [intOf]; omega
      by_cases o10 : x.op = 10
      · have EQ : Hid (onI n 0 x = { x with a := x.a + (n : Int) }) := onI_jump (Or.inr o10)
        have f9 : (x.op == 9) = false := by simpa using o9
        have f10 : (x.op == 10) = true := by simpa using o10
        have a9 := hjx (Or.inr o10)
        have wx : IntKind.i64.wrap (x.a + n) = x.a + n := wrapI (by omega) (by omega)
        clear o9 o10 hjx
        go_wp2_with (at_builtin; refine wpList_row rfl _ _ 42 rfl w.heap.size 46 i1 _ 11 128 Try.underlying42 jinf jz0 jz1 jz2 rfl (by decide) (.slice sa j sc) j (flatI ((is.take j).map (onE n))) rfl (HO.out _ (((Below.refl _ _).alloc (Nat.le_refl _) _).alloc (by simp) _)).1 (some ⟨wr.heap.size + 1, 0, none⟩) 1 1 (IE.mk { x with a := x.a + (n : Int) } xq xc).cells rfl rfl (Or.inr ⟨wr.heap.size + 1, 0, rfl, alloc2_cells wr _ _ _ _ rfl⟩) (IE.one _) (by unfold maxLen; omega) (by omega) (HO.out _ (((Below.refl _ _).alloc (Nat.le_refl _) _).alloc (by simp) _)).2 ?_)
        intro v7 w7 ho7 hg7 hw7
        obtain ⟨sa', sc', rfl, hsc', HB', HR'⟩ := PUSH.out _ v7 w7 _ (((Below.refl _ _).alloc (Nat.le_refl _) _).alloc (by simp) _) (by rw [List.map_take]; exact ho7) hg7 EQ.out
        clear ho7 hg7 hw7 EQ PUSH HO k0 k1 k2 k3 k4 k5 k6 k7 k8 k9 k10
        go_wp2_with fail
        go_roundw
        case rel => exact ⟨j + 1, sa', sc', by omega, by go_num, rfl, hsc', HB', HR'⟩
        case measure => simp [intOf]; omega
      · have EQ : Hid (onI n 0 x = x) := onI_noj o9 o10
        have f9 : (x.op == 9) = false := by simpa using o9
        have f10 : (x.op == 10) = false := by simpa using o10
        clear o9 o10 hjx
        go_wp2_with (at_builtin; refine wpList_row rfl _ _ 42 rfl w.heap.size 46 i1 _ 11 128 Try.underlying42 jinf jz0 jz1 jz2 rfl (by decide) (.slice sa j sc) j (flatI ((is.take j).map (onE n))) rfl (HO.out _ (((Below.refl _ _).alloc (Nat.le_refl _) _).alloc (by simp) _)).1 (some ⟨wr.heap.size + 1, 0, none⟩) 1 1 (IE.mk x xq xc).cells rfl rfl (Or.inr ⟨wr.heap.size + 1, 0, rfl, alloc2_cells wr _ _ _ _ rfl⟩) (IE.one _) (by unfold maxLen; omega) (by omega) (HO.out _ (((Below.refl _ _).alloc (Nat.le_refl _) _).alloc (by simp) _)).2 ?_)
        intro v7 w7 ho7 hg7 hw7
        obtain ⟨sa', sc', rfl, hsc', HB', HR'⟩ := PUSH.out _ v7 w7 _ (((Below.refl _ _).alloc (Nat.le_refl _) _).alloc (by simp) _) (by rw [List.map_take]; exact ho7) hg7 EQ.out
        clear ho7 hg7 hw7 EQ PUSH HO k0 k1 k2 k3 k4 k5 k6 k7 k8 k9 k10
        go_wp2_with fail
        go_roundw
        case rel => exact ⟨j + 1, sa', sc', by omega, by go_num, rfl, hsc', HB', HR'⟩
        case measure => simp [intOf]; omega
    · obtain rfl : j = is.length := by omega
      rw [List.take_length] at HR
      go_wp2_with fail
      go_ret
      exact ⟨_, rfl, HB.out, HR.out⟩

theorem step_row {ops : Array Oper} {o : Oper} {a : Act} {w : World} {K : Act → World → Prop} {Q : Exit → Act → World → Prop} {E : Prop} (hgd : o.guard = none) (s x : Operand) (t : TypeId)
    (ho : o.op = .call { callee := .builtin .append, args := #[s, x], argTypes := #[t, t] })
    (base : Nat) (e : TypeId) (i : TypeInfo) (z : Value) (size bytes : Nat) (ht : Try.prog.underlying t = some (.slice e)) (hi : Try.prog.info? e = some i) (hz : i.zero = some z)
    (hsize : i.size = size) (hby : i.bytes = bytes) (hzs : z.cells.size = size) (hsz : 0 < size)
    (v : Value) (n : Nat) (xs : List Value) (hs : a.eval s = v) (hown : w.ownsRow base e size v n xs)
    (xa : Option Addr) (m c : Nat) (news : List Value) (hx : a.eval x = .slice xa m c) (hl : news.length = m * size) (hsrc : m = 0 ∨ ∃ b o, xa = some ⟨b, o, none⟩ ∧ ∀ j u, news[j]? = some u → w.cell? ⟨b, o + j, none⟩ = some u) (h1 : ∀ u ∈ news, u.oneCell' = true)
    (h63 : n + m ≤ maxLen) (hbytes : (n + m) * bytes ≤ 140737488355328) (hbase : base ≤ w.heap.size)
    (h : ∀ v' w', w'.ownsRow base e size v' (n + m) (xs ++ news) → w.grownBy w' v.ownBlock → (v'.ownBlock = v.ownBlock ∨ v'.ownBlock = some w.heap.size) → K (a.put o.dst v') w') :
    if Region.wanted o (yielded ops a.tmps) = true then Oper.wp Try.prog o a w K Q else E := by
  have hw : Region.wanted o (yielded ops a.tmps) = true := by simp [Region.wanted, hgd]
  rw [if_pos hw]
  obtain ⟨v', w', hr, h2, h3, h4⟩ := run_row (P := Try.prog) w base t o.type e i z size bytes ht hi hz hsize hby hzs hsz v n xs hown xa m c news hl hsrc h1 h63 hbytes hbase
  unfold Oper.wp execOp
  simp only [ho, resolve, invoke, builtin, Sem.run_bind, Sem.run_pure, Result.andThen_ok, List.map_toArray, List.map_cons, List.map_nil, hs, hx, hr]
  exact h v' w' h2 h3 h4
theorem Rd.src {w : World} {a : Option Addr} {is : List IE} (h : Rd w a is) : is.length = 0 ∨ ∃ b o, a = some ⟨b, o, none⟩ ∧ ∀ j u, (flatI is)[j]? = some u → w.cell? ⟨b, o + j, none⟩ = some u := by
  rcases h with h | ⟨b, h1, _, h3⟩
  · exact Or.inl (by rw [h]; rfl)
  · exact Or.inr ⟨b, 0, h1, fun j u hu => by rw [Nat.zero_add]; exact h3 j u hu⟩
/-- Code so far, in a box. -/
structure OT (B T : Nat) (tv : Value) (os : List IE) (w : World) : Prop where
  box : w.heap[T]? = some (.cells #[tv] 42 (0, 0))
  bt : B ≤ T
  own : w.ownsRow B 46 11 tv os.length (flatI os)
  sep : tv.ownBlock ≠ some T
def OO (T : Nat) (tv : Value) (b : Nat) : Prop := b = T ∨ some b = tv.ownBlock
theorem OT.lt {B T : Nat} {tv : Value} {os : List IE} {w : World} (h : OT B T tv os w) : T < w.heap.size := (Array.getElem?_eq_some_iff.1 h.box).1
theorem OT.ble {B T : Nat} {tv : Value} {os : List IE} {w : World} (h : OT B T tv os w) : B ≤ w.heap.size := Nat.le_of_lt (Nat.lt_of_le_of_lt h.bt h.lt)
theorem OT.below {B T : Nat} {tv : Value} {os : List IE} {w w' : World} (h : OT B T tv os w) (hb : Below w.heap.size w w') : OT B T tv os w' := ⟨(hb.block _ h.lt).trans h.box, h.bt, own_below h.own hb, h.sep⟩
theorem OT.slice {B T : Nat} {tv : Value} {os : List IE} {w : World} (h : OT B T tv os w) : ∃ a c, tv = .slice a os.length c ∧ os.length ≤ c := own_slice h.own
/-- A whole row is appended, and the box filled anew. -/
theorem OT.push {B T : Nat} {tv tv' : Value} {os fs : List IE} {w w2 w4 : World} (h : OT B T tv os w) (h2 : Below w.heap.size w w2)
    (hown : w4.ownsRow B 46 11 tv' (os.length + fs.length) (flatI os ++ flatI fs)) (hg : w2.grownBy w4 tv.ownBlock) (hw : tv'.ownBlock = tv.ownBlock ∨ tv'.ownBlock = some w2.heap.size) :
    OT B T tv' (os ++ fs) (w4.setCell ⟨T, 0, none⟩ tv') ∧ Fm (OO T tv) (OO T tv') B w (w4.setCell ⟨T, 0, none⟩ tv') := by
  have m2 := h.below h2
  have hs2 := h2.size
  have hs4 := hg.size
  have hlt := m2.lt
  have hke : Keep T w4 (w4.setCell ⟨T, 0, none⟩ tv') := (Keep.refl _ _).setCell _ rfl _
  have hne : tv'.ownBlock ≠ some T := by
    rcases hw with e | e
    · rw [e]; exact h.sep
    · rw [e]; intro e2; have := Option.some.inj e2; omega
  refine ⟨⟨?_, h.bt, ?_, hne⟩, (h2.mono h.ble).trans (((Below.refl B w2).grown hg m2.ble (fun k hk => (m2.own.lt k hk).1)).trans (hke.toBelow h.bt (by have := m2.ble; omega))), fun b hb ho => ?_, fun b hb ho => ?_⟩
  · exact heap_setCell_same w4 T 0 #[tv] 42 tv' ((hg.block T hlt (fun e => h.sep e.symm)).trans m2.box)
  · rw [flatI_append, List.length_append]
    exact hown.kept hke (Or.inr (by simpa using hne))
  · exact (hke.block b (by omega) (by simpa using fun e => ho (Or.inl e))).trans ((hg.block b (by omega) (fun e => ho (Or.inr e))).trans (h2.block b hb))
  · rcases ho with e | e
    · exact Or.inl e
    · rcases hw with e2 | e2
      · rw [e2] at e; exact Or.inr e
      · rw [e2] at e; have := Option.some.inj e; omega
def FN32 (T : Nat) : Value := .func (.func 32) #[] #[.pointer (some ⟨T, 0, none⟩)]

set_option maxRecDepth 100000 in
set_option maxHeartbeats 3200000 in
theorem add_any (B T : Nat) (tv : Value) (os is : List IE) (a : Option Addr) (c : Nat) (w : World) (h : OT B T tv os w) (hsrc : Rd w a is) (hcap : is.length ≤ c) (hn : os.length + is.length ≤ 100000000) (hjb : ∀ e ∈ is, (e.i.op = 9 ∨ e.i.op = 10) → 0 ≤ e.i.a ∧ e.i.a ≤ 1000000000) :
    Calls Try.prog 32 #[.slice a is.length c, .pointer (some ⟨T, 0, none⟩)] w fun e w' => e = .returned (.tuple #[]) ∧ ∃ tv', OT B T tv' (os ++ is.map (onE os.length)) w' ∧ Fm (OO T tv) (OO T tv') B w w' := by
  have OT_0 := hidd (h.below (Below.drew (Below.refl _ _)))
  have H0 := hidd h
  have CM : Hid (∀ W, Below w.heap.size w W → Calls Try.prog 21 #[.slice a is.length c, .int .i64 os.length] W fun e w' => ∃ rv, e = .returned rv ∧ Below W.heap.size W w' ∧ w'.ownsRow W.heap.size 46 11 rv is.length (flatI (is.map (onE os.length)))) := fun W hb => moved_any is a c os.length W (hsrc.below hb) hcap (by omega) (by omega) hjb
  have hT := h.lt
  obtain ⟨ta, tc, rfl, htc⟩ := h.slice
  clear h hsrc hjb
  obtain ⟨i1, jinf, jz0, jz1, jz2⟩ := info_parts infoIns
  go_enter Try.func32, Try.ntmps32
  go_upto_region 0 with fail
  refine wp_region_held_drew (S := fun u => Below w.heap.size w u ∨ True) (by kernel_rfl) (Or.inr trivial) (fun hS => ?_)
  have BW_0 : Hid (Below w.heap.size w w.drew) := Below.drew (Below.refl _ _)
  refine wpAnyH_take (i := 1) (oi := { dst := some 4, op := Op.move (Operand.tmp 0), type := 42, pos := _, after := _, guard := none }) (v := .slice a is.length c) rfl (by kernel_rfl) (by kernel_rfl) (by kernel_rfl) (fun _ _ _ h => h) (Or.inl ⟨by rfl, fun u hu => by go_simp⟩) hS ?_
  simp only [Act.put, List.setIfInBounds_toArray, List.set_cons_zero, List.set_cons_succ]
  refine wpAnyH_ready (rs := [0, 2]) (by kernel_rfl) (by simp) (AllReadyH.cons (o := { dst := some 3, op := Op.load 42 (Operand.tmp 1), type := 42, pos := _, after := _, guard := none }) rfl (fun K hK => ?_) (AllReadyH.cons (o := { dst := some 5, op := Op.load 42 (Operand.tmp 1), type := 42, pos := _, after := _, guard := none }) rfl (fun K hK => ?_) AllReadyH.nil))
  · have zt : w.drew.cell? ⟨T, 0, none⟩ = some (.slice ta os.length tc) := (cellOf OT_0.out.box).trans rfl
    go_simp
    clear zt
    refine hK.out _ _ (Or.inr trivial) (fun hS => ?_)
    clear hK K
    refine wpAnyH_ready (rs := [2]) (by kernel_rfl) (by simp) (AllReadyH.cons (o := { dst := some 5, op := Op.load 42 (Operand.tmp 1), type := 42, pos := _, after := _, guard := none }) rfl (fun K hK => ?_) AllReadyH.nil)
    have zt : w.drew.cell? ⟨T, 0, none⟩ = some (.slice ta os.length tc) := (cellOf OT_0.out.box).trans rfl
    go_simp
    clear zt
    refine hK.out _ _ (Or.inr trivial) (fun hS => ?_)
    clear hK K
    refine wpAnyH_take (i := 3) (oi := { dst := some 6, op := Op.call { callee := Callee.builtin Builtin.len, args := #[Operand.tmp 5], argTypes := #[42] }, type := 3, pos := _, after := _, guard := none }) (v := .int .i64 os.length) rfl (by kernel_rfl) (by kernel_rfl) (by kernel_rfl) (fun _ _ _ h => h) (Or.inl ⟨by rfl, fun u hu => by go_simp⟩) hS ?_
    simp only [Act.put, List.setIfInBounds_toArray, List.set_cons_zero, List.set_cons_succ]
    refine wpAnyH_ready (rs := [4]) (by kernel_rfl) (by simp) (AllReadyH.cons (o := { dst := some 7, op := Op.call { callee := Callee.value (Operand.func 21), args := #[Operand.tmp 4, Operand.tmp 6], argTypes := #[42, 3] }, type := 42, pos := _, after := _, guard := none }) rfl (fun K hK => ?_) AllReadyH.nil)
    go_simp
    refine Calls.mono (CM.out w.drew BW_0.out) ?_
    rintro e W1 ⟨rv, rfl, hb1, hrow⟩
    obtain ⟨ra, rc, rfl, hrc⟩ := own_slice hrow
    have OT_1 : Hid (OT B T (.slice ta os.length tc) os W1) := OT_0.out.below hb1
    have BW_1 : Hid (Below w.heap.size w W1) := BW_0.out.trans (hb1.mono BW_0.out.size)
    have RW_1 := hidd hrow
    clear hb1 hrow
    show K _ W1
    refine hK.out _ _ (Or.inr trivial) (fun hS => ?_)
    clear hK K
    refine wpAnyH_ready (rs := [5]) (by kernel_rfl) (by simp) (AllReadyH.cons (o := { dst := some 8, op := Op.call { callee := Callee.builtin Builtin.append, args := #[Operand.tmp 3, Operand.tmp 7], argTypes := #[42, 42] }, type := 42, pos := _, after := _, guard := none }) rfl (fun K hK => ?_) AllReadyH.nil)
    refine step_row rfl (.tmp 3) (.tmp 7) 42 rfl B 46 i1 _ 11 128 Try.underlying42 jinf jz0 jz1 jz2 rfl (by decide) (.slice ta os.length tc) os.length (flatI os) rfl OT_1.out.own ra is.length rc (flatI (is.map (onE os.length))) rfl (by rw [flatI_len, List.length_map]) (by have q := (Rd.of_own (is := is.map (onE os.length)) (by rw [List.length_map]; exact RW_1.out)).src; rwa [List.length_map] at q) (flatI_one _) (by unfold maxLen; omega) (by omega) OT_1.out.ble ?_
    intro tv' w4 hown4 hg4 hw4
    obtain ⟨ho, hf⟩ := H0.out.push (fs := is.map (onE os.length)) BW_1.out (by rw [List.length_map]; exact hown4) hg4 hw4
    have T4 : w4.heap[T]? = some (.cells #[.slice ta os.length tc] 42 (0, 0)) := (hg4.block T OT_1.out.lt (fun e => OT_1.out.sep e.symm)).trans OT_1.out.box
    have REL := hidd (And.intro ho hf)
    have TB4 := hidd T4
    obtain ⟨sa, sc, hsv, _⟩ := own_slice hown4
    subst hsv
    clear ho hf T4 hown4 hg4 hw4
    show K _ w4
    refine hK.out _ _ (Or.inr trivial) (fun hS => ?_)
    clear hK K
    refine wpAnyH_ready (rs := [6]) (by kernel_rfl) (by simp) (AllReadyH.cons (o := { dst := none, op := Op.store 42 (Operand.tmp 1) (Operand.tmp 8), type := 0, pos := _, after := _, guard := none }) rfl (fun K hK => ?_) AllReadyH.nil)
    have n0 : w4.cell? ⟨T, 0, none⟩ = some (.slice ta os.length tc) := (cellOf TB4.out).trans rfl
    have nz : w4.frozen? ⟨T, 0, none⟩ = false := by simp [World.frozen?, TB4.out]
    go_simp
    clear n0 nz
    refine hK.out _ _ (Or.inr trivial) (fun hS => ?_)
    clear hK K
    refine wpAnyH_done (by kernel_rfl) ?_ _
    go_wp2_with fail
    go_end0
    exact ⟨rfl, _, REL.out.1, REL.out.2⟩
  · have zt : w.drew.cell? ⟨T, 0, none⟩ = some (.slice ta os.length tc) := (cellOf OT_0.out.box).trans rfl
    go_simp
    clear zt
    refine hK.out _ _ (Or.inr trivial) (fun hS => ?_)
    clear hK K
    refine wpAnyH_take (i := 3) (oi := { dst := some 6, op := Op.call { callee := Callee.builtin Builtin.len, args := #[Operand.tmp 5], argTypes := #[42] }, type := 3, pos := _, after := _, guard := none }) (v := .int .i64 os.length) rfl (by kernel_rfl) (by kernel_rfl) (by kernel_rfl) (fun _ _ _ h => h) (Or.inl ⟨by rfl, fun u hu => by go_simp⟩) hS ?_
    simp only [Act.put, List.setIfInBounds_toArray, List.set_cons_zero, List.set_cons_succ]
    refine wpAnyH_ready (rs := [0, 4]) (by kernel_rfl) (by simp) (AllReadyH.cons (o := { dst := some 3, op := Op.load 42 (Operand.tmp 1), type := 42, pos := _, after := _, guard := none }) rfl (fun K hK => ?_) (AllReadyH.cons (o := { dst := some 7, op := Op.call { callee := Callee.value (Operand.func 21), args := #[Operand.tmp 4, Operand.tmp 6], argTypes := #[42, 3] }, type := 42, pos := _, after := _, guard := none }) rfl (fun K hK => ?_) AllReadyH.nil))
    · have zt : w.drew.cell? ⟨T, 0, none⟩ = some (.slice ta os.length tc) := (cellOf OT_0.out.box).trans rfl
      go_simp
      clear zt
      refine hK.out _ _ (Or.inr trivial) (fun hS => ?_)
      clear hK K
      refine wpAnyH_ready (rs := [4]) (by kernel_rfl) (by simp) (AllReadyH.cons (o := { dst := some 7, op := Op.call { callee := Callee.value (Operand.func 21), args := #[Operand.tmp 4, Operand.tmp 6], argTypes := #[42, 3] }, type := 42, pos := _, after := _, guard := none }) rfl (fun K hK => ?_) AllReadyH.nil)
      go_simp
      refine Calls.mono (CM.out w.drew BW_0.out) ?_
      rintro e W1 ⟨rv, rfl, hb1, hrow⟩
      obtain ⟨ra, rc, rfl, hrc⟩ := own_slice hrow
      have OT_1 : Hid (OT B T (.slice ta os.length tc) os W1) := OT_0.out.below hb1
      have BW_1 : Hid (Below w.heap.size w W1) := BW_0.out.trans (hb1.mono BW_0.out.size)
      have RW_1 := hidd hrow
      clear hb1 hrow
      show K _ W1
      refine hK.out _ _ (Or.inr trivial) (fun hS => ?_)
      clear hK K
      refine wpAnyH_ready (rs := [5]) (by kernel_rfl) (by simp) (AllReadyH.cons (o := { dst := some 8, op := Op.call { callee := Callee.builtin Builtin.append, args := #[Operand.tmp 3, Operand.tmp 7], argTypes := #[42, 42] }, type := 42, pos := _, after := _, guard := none }) rfl (fun K hK => ?_) AllReadyH.nil)
      refine step_row rfl (.tmp 3) (.tmp 7) 42 rfl B 46 i1 _ 11 128 Try.underlying42 jinf jz0 jz1 jz2 rfl (by decide) (.slice ta os.length tc) os.length (flatI os) rfl OT_1.out.own ra is.length rc (flatI (is.map (onE os.length))) rfl (by rw [flatI_len, List.length_map]) (by have q := (Rd.of_own (is := is.map (onE os.length)) (by rw [List.length_map]; exact RW_1.out)).src; rwa [List.length_map] at q) (flatI_one _) (by unfold maxLen; omega) (by omega) OT_1.out.ble ?_
      intro tv' w4 hown4 hg4 hw4
      obtain ⟨ho, hf⟩ := H0.out.push (fs := is.map (onE os.length)) BW_1.out (by rw [List.length_map]; exact hown4) hg4 hw4
      have T4 : w4.heap[T]? = some (.cells #[.slice ta os.length tc] 42 (0, 0)) := (hg4.block T OT_1.out.lt (fun e => OT_1.out.sep e.symm)).trans OT_1.out.box
      have REL := hidd (And.intro ho hf)
      have TB4 := hidd T4
      obtain ⟨sa, sc, hsv, _⟩ := own_slice hown4
      subst hsv
      clear ho hf T4 hown4 hg4 hw4
      show K _ w4
      refine hK.out _ _ (Or.inr trivial) (fun hS => ?_)
      clear hK K
      refine wpAnyH_ready (rs := [6]) (by kernel_rfl) (by simp) (AllReadyH.cons (o := { dst := none, op := Op.store 42 (Operand.tmp 1) (Operand.tmp 8), type := 0, pos := _, after := _, guard := none }) rfl (fun K hK => ?_) AllReadyH.nil)
      have n0 : w4.cell? ⟨T, 0, none⟩ = some (.slice ta os.length tc) := (cellOf TB4.out).trans rfl
      have nz : w4.frozen? ⟨T, 0, none⟩ = false := by simp [World.frozen?, TB4.out]
      go_simp
      clear n0 nz
      refine hK.out _ _ (Or.inr trivial) (fun hS => ?_)
      clear hK K
      refine wpAnyH_done (by kernel_rfl) ?_ _
      go_wp2_with fail
      go_end0
      exact ⟨rfl, _, REL.out.1, REL.out.2⟩
    · go_simp
      refine Calls.mono (CM.out w.drew BW_0.out) ?_
      rintro e W1 ⟨rv, rfl, hb1, hrow⟩
      obtain ⟨ra, rc, rfl, hrc⟩ := own_slice hrow
      have OT_1 : Hid (OT B T (.slice ta os.length tc) os W1) := OT_0.out.below hb1
      have BW_1 : Hid (Below w.heap.size w W1) := BW_0.out.trans (hb1.mono BW_0.out.size)
      have RW_1 := hidd hrow
      clear hb1 hrow
      show K _ W1
      refine hK.out _ _ (Or.inr trivial) (fun hS => ?_)
      clear hK K
      refine wpAnyH_ready (rs := [0]) (by kernel_rfl) (by simp) (AllReadyH.cons (o := { dst := some 3, op := Op.load 42 (Operand.tmp 1), type := 42, pos := _, after := _, guard := none }) rfl (fun K hK => ?_) AllReadyH.nil)
      have zt : W1.cell? ⟨T, 0, none⟩ = some (.slice ta os.length tc) := (cellOf OT_1.out.box).trans rfl
      go_simp
      clear zt
      refine hK.out _ _ (Or.inr trivial) (fun hS => ?_)
      clear hK K
      refine wpAnyH_ready (rs := [5]) (by kernel_rfl) (by simp) (AllReadyH.cons (o := { dst := some 8, op := Op.call { callee := Callee.builtin Builtin.append, args := #[Operand.tmp 3, Operand.tmp 7], argTypes := #[42, 42] }, type := 42, pos := _, after := _, guard := none }) rfl (fun K hK => ?_) AllReadyH.nil)
      refine step_row rfl (.tmp 3) (.tmp 7) 42 rfl B 46 i1 _ 11 128 Try.underlying42 jinf jz0 jz1 jz2 rfl (by decide) (.slice ta os.length tc) os.length (flatI os) rfl OT_1.out.own ra is.length rc (flatI (is.map (onE os.length))) rfl (by rw [flatI_len, List.length_map]) (by have q := (Rd.of_own (is := is.map (onE os.length)) (by rw [List.length_map]; exact RW_1.out)).src; rwa [List.length_map] at q) (flatI_one _) (by unfold maxLen; omega) (by omega) OT_1.out.ble ?_
      intro tv' w4 hown4 hg4 hw4
      obtain ⟨ho, hf⟩ := H0.out.push (fs := is.map (onE os.length)) BW_1.out (by rw [List.length_map]; exact hown4) hg4 hw4
      have T4 : w4.heap[T]? = some (.cells #[.slice ta os.length tc] 42 (0, 0)) := (hg4.block T OT_1.out.lt (fun e => OT_1.out.sep e.symm)).trans OT_1.out.box
      have REL := hidd (And.intro ho hf)
      have TB4 := hidd T4
      obtain ⟨sa, sc, hsv, _⟩ := own_slice hown4
      subst hsv
      clear ho hf T4 hown4 hg4 hw4
      show K _ w4
      refine hK.out _ _ (Or.inr trivial) (fun hS => ?_)
      clear hK K
      refine wpAnyH_ready (rs := [6]) (by kernel_rfl) (by simp) (AllReadyH.cons (o := { dst := none, op := Op.store 42 (Operand.tmp 1) (Operand.tmp 8), type := 0, pos := _, after := _, guard := none }) rfl (fun K hK => ?_) AllReadyH.nil)
      have n0 : w4.cell? ⟨T, 0, none⟩ = some (.slice ta os.length tc) := (cellOf TB4.out).trans rfl
      have nz : w4.frozen? ⟨T, 0, none⟩ = false := by simp [World.frozen?, TB4.out]
      go_simp
      clear n0 nz
      refine hK.out _ _ (Or.inr trivial) (fun hS => ?_)
      clear hK K
      refine wpAnyH_done (by kernel_rfl) ?_ _
      go_wp2_with fail
      go_end0
      exact ⟨rfl, _, REL.out.1, REL.out.2⟩
end Go.Proofs.Ytbbmdhkbndgdkaa
