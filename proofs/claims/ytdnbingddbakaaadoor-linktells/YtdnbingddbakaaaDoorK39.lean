/- Chapter 9, the document's side: Heights. -/
import Derived.Test.YtdnbingddbakaaaDoorK27
import Derived.Test.YtdnbingddbakaaaDoorK20
import Derived.Test.YtdnbingddbakaaaDoorK17
import Derived.Test.YtdnbingddbakaaaDoorK08
namespace Go.Proofs.YtdnbingddbakaaaDoor
set_option linter.unusedVariables false
set_option linter.unusedSimpArgs false
open Go.RowKit

/-- An append of a whole slice, be it empty or not, to a row of one's own. -/
theorem run_rowS {P : Program} (w : World) (base : Nat) (t ty e : TypeId) (i : TypeInfo) (z : Value) (size bytes : Nat) (ht : P.underlying t = some (.slice e)) (hi : P.info? e = some i) (hz : i.zero = some z)
    (hsize : i.size = size) (hby : i.bytes = bytes) (hzs : z.cells.size = size) (hsz : 0 < size)
    (v : Value) (n : Nat) (xs : List Value) (hown : w.ownsRow base e size v n xs)
    (xa : Option Addr) (m c : Nat) (news : List Value) (hl : news.length = m * size) (hsrc : m = 0 ∨ ∃ b o, xa = some ⟨b, o, none⟩ ∧ ∀ j u, news[j]? = some u → w.cell? ⟨b, o + j, none⟩ = some u) (h1 : ∀ u ∈ news, u.oneCell' = true)
    (h63 : n + m ≤ maxLen) (hbytes : (n + m) * bytes ≤ 140737488355328) (hbase : base ≤ w.heap.size) :
    ∃ v' w', (Builtin.append_ #[t, t] ty #[v, .slice xa m c]).run P w = .ok v' w' ∧ w'.ownsRow base e size v' (n + m) (xs ++ news) ∧ w.grownBy w' v.ownBlock ∧ (v'.ownBlock = v.ownBlock ∨ v'.ownBlock = some w.heap.size) := by
  by_cases hm : m = 0
  · subst hm
    have hn0 : news = [] := List.length_eq_zero_iff.1 (by simpa using hl)
    subst hn0
    obtain ⟨va, vc, rfl, hvc⟩ : ∃ va vc, v = .slice va n vc ∧ n ≤ vc := by
      rcases hown.2 with ⟨rfl, rfl⟩ | ⟨g, cap, cur, rfl, hbg, hg, hnc, hcm, hcs, htake⟩
      · exact ⟨none, 0, rfl, Nat.le_refl _⟩
      · exact ⟨_, cap, rfl, hnc⟩
    have hr2 : (Builtin.append_ #[t, t] ty #[.slice va n vc, .slice xa 0 c]).run P w = .ok (.slice va n vc) w := by
      refine run_append_nothing w t t ty e i ht hi va n vc hvc (.slice xa 0 c) ?_
      cases xa with
      | none => exact Src.ofNil w ht c
      | some a => exact Src.ofSlice w ht a 0 c [] (by simp) (by simp) (by simp)
    exact ⟨_, _, hr2, by simpa using hown, ⟨rfl, rfl, rfl, Nat.le_refl _, fun _ _ _ => rfl⟩, Or.inl rfl⟩
  · rcases hsrc with h0 | ⟨b, o, rfl, hc⟩
    · exact absurd h0 hm
    · exact run_append_where (P := P) w base t ty e i z size bytes ht hi hz hsize hby hzs hsz v n xs hown ⟨b, o, none⟩ m c news hl (fun j u hu => by
        have hadd : (⟨b, o, none⟩ : Addr).add j = ⟨b, o + j, none⟩ := by unfold Addr.add; split <;> simp_all
        rw [hadd]
        exact hc j u hu) h1 (by omega) h63 hbytes hbase
theorem wpList_rowS {P : Program} {w : World} {ops : Array Oper} {rest : List Oper} {o : Oper} {a : Act} {Q : Exit → Act → World → Prop} (hgd : o.guard = none) (s x : Operand) (t : TypeId)
    (ho : o.op = .call { callee := .builtin .append, args := #[s, x], argTypes := #[t, t] })
    (base : Nat) (e : TypeId) (i : TypeInfo) (z : Value) (size bytes : Nat) (ht : P.underlying t = some (.slice e)) (hi : P.info? e = some i) (hz : i.zero = some z)
    (hsize : i.size = size) (hby : i.bytes = bytes) (hzs : z.cells.size = size) (hsz : 0 < size)
    (v : Value) (n : Nat) (xs : List Value) (hs : a.eval s = v) (hown : w.ownsRow base e size v n xs)
    (xa : Option Addr) (m c : Nat) (news : List Value) (hx : a.eval x = .slice xa m c) (hl : news.length = m * size) (hsrc : m = 0 ∨ ∃ b o, xa = some ⟨b, o, none⟩ ∧ ∀ j u, news[j]? = some u → w.cell? ⟨b, o + j, none⟩ = some u) (h1 : ∀ u ∈ news, u.oneCell' = true)
    (h63 : n + m ≤ maxLen) (hbytes : (n + m) * bytes ≤ 140737488355328) (hbase : base ≤ w.heap.size)
    (h : ∀ v' w', w'.ownsRow base e size v' (n + m) (xs ++ news) → w.grownBy w' v.ownBlock → (v'.ownBlock = v.ownBlock ∨ v'.ownBlock = some w.heap.size) → wpList P ops Q rest (a.put o.dst v') w') : wpList P ops Q (o :: rest) a w := by
  refine wpList_plain hgd fun _ hK => ?_
  obtain ⟨v', w', hr, h2, h3, h4⟩ := run_rowS (P := P) w base t o.type e i z size bytes ht hi hz hsize hby hzs hsz v n xs hown xa m c news hl hsrc h1 h63 hbytes hbase
  unfold Oper.wp execOp
  simp only [ho, resolve, invoke, builtin, Sem.run_bind, Sem.run_pure, Result.andThen_ok, List.map_toArray, List.map_cons, List.map_nil, hs, hx, hr]
  exact hK _ _ (h v' w' h2 h3 h4)

theorem own_belowS {B n size : Nat} {T : TypeId} {v : Value} {xs : List Value} {w w' : World} (h : w.ownsRow B T size v n xs) (hk : Below w.heap.size w w') : w'.ownsRow B T size v n xs :=
  h.kept (row := none) ⟨hk.os, hk.tape, hk.output, hk.size, fun k h1 _ => hk.block k h1⟩ (by cases hv : v.ownBlock <;> simp)
theorem own_atS {w : World} {base size n : Nat} {e : TypeId} {v : Value} {xs : List Value} (h : w.ownsRow base e size v n xs) (hn : 0 < n) : ∃ g vc, v = .slice (some ⟨g, 0, none⟩) n vc ∧ n ≤ vc ∧ base ≤ g ∧ g < w.heap.size ∧ v.ownBlock = some g ∧ ∀ j u, xs[j]? = some u → w.cell? ⟨g, j, none⟩ = some u := by
  rcases h.2 with ⟨rfl, rfl⟩ | ⟨g, cap, cur, rfl, hbg, hg, hnc, hcm, hcs, htake⟩
  · omega
  · refine ⟨g, cap, rfl, hnc, hbg, (Array.getElem?_eq_some_iff.1 hg).1, rfl, fun j u hu => ?_⟩
    rw [cellO hg]
    rw [← htake] at hu
    rw [List.getElem?_take] at hu
    split at hu
    · simpa using hu
    · simp at hu
theorem own_sliceS {w : World} {base size n : Nat} {e : TypeId} {v : Value} {xs : List Value} (h : w.ownsRow base e size v n xs) : ∃ va vc, v = .slice va n vc ∧ n ≤ vc := by
  rcases h.2 with ⟨rfl, rfl⟩ | ⟨g, cap, cur, rfl, hbg, hg, hnc, hcm, hcs, htake⟩
  · exact ⟨none, 0, rfl, Nat.le_refl _⟩
  · exact ⟨_, cap, rfl, hnc⟩
theorem gath_app {at0 : Int} : ∀ (a b : List (Int × Int)) (s : Int), gath at0 (a ++ b) s = (gath at0 a s).bind (gath at0 b)
  | [], b, s => rfl
  | f :: r, b, s => by
    rw [List.cons_append, gath, gath]
    split
    · split
      · rfl
      · exact gath_app r b f.2
    · exact gath_app r b s
def fcells (f : Int × Int) : List Value := [.int .i64 f.1, .int .i64 f.2]
def flatF (nx : List (Int × Int)) : List Value := nx.flatMap fcells
theorem fcells_one (f : Int × Int) : ∀ u ∈ fcells f, u.oneCell' = true := by
  intro u hu
  simp [fcells] at hu
  rcases hu with rfl | rfl <;> rfl
theorem flatF_at : ∀ (l : List (Int × Int)) (i r : Nat) (e : Int × Int), l[i]? = some e → r < 2 → (flatF l)[i * 2 + r]? = (fcells e)[r]?
  | [], i, r, e, h, _ => by simp at h
  | x :: t, 0, r, e, h, hr => by
    simp at h
    subst h
    rw [flatF, List.flatMap_cons, Nat.zero_mul, Nat.zero_add, List.getElem?_append_left (by simp [fcells]; exact hr)]
  | x :: t, i + 1, r, e, h, hr => by
    simp at h
    rw [flatF, List.flatMap_cons, List.getElem?_append_right (by simp [fcells]; omega), show (fcells x).length = 2 from rfl, show (i + 1) * 2 + r - 2 = i * 2 + r by omega]
    exact flatF_at t i r e h hr
theorem make_ints (n m : Nat) (z : Int) (hz : z = (n : Int) + 1) (hm : m = n + 1) (hn : n ≤ 6000) (w : World) : (Instr.makeSlice 25 (.int .i64 z) (.int .i64 z)).run Tryd.prog w = .ok (.slice (some ⟨w.heap.size, 0, none⟩) m m) (w.alloc (.cells (Array.replicate m (Value.int .i64 0)) 3)) := by
  obtain ⟨i0, hinf, hz0, hz1, hz2⟩ := info_parts infoInt
  obtain rfl : z = (m : Int) := by omega
  have := run_makeSlice (P := Tryd.prog) w 25 3 i0 (.int .i64 0) Tryd.underlying25 hinf hz0 .i64 .i64 m m (by omega) (Int.le_refl _) (by rw [hz1]; simp; omega) (by rw [hz2]; omega) (by omega)
  rw [hz1] at this
  simpa [Value.cells, made_one] using this
theorem infoFrom : (Tryd.prog.info? 94).map (fun i => (i.zero, i.size, i.bytes)) = some (some (.agg #[.int .i64 0, .int .i64 0]), 2, 16) := by kernel_rfl
theorem fill_set (k m : Nat) (h : k < m) : (List.replicate k (-1 : Int) ++ List.replicate (m - k) 0).set k (-1) = List.replicate (k + 1) (-1) ++ List.replicate (m - (k + 1)) 0 := by
  rw [List.set_append_right _ _ (by simp), List.length_replicate, Nat.sub_self, show m - k = (m - (k + 1)) + 1 by omega, List.replicate_succ, List.set_cons_zero, List.replicate_succ', List.append_assoc]
  rfl
/-- The heights being looked at, in memory: what was seen, what goes on. -/
structure HW (w : World) (hs : List Int) (v : Value) (nx : List (Int × Int)) (W : World) : Prop where
  hr : HR w.heap.size 3 hs W
  row : W.ownsRow (w.heap.size + 1) 94 2 v nx.length (flatF nx)
  bl : Below w.heap.size w W
theorem HW.on {w : World} {hs v nx} {W W' : World} (h : HW w hs v nx W) (hb : Below W.heap.size W W') : HW w hs v nx W' :=
  ⟨(hb.block _ (Array.getElem?_eq_some_iff.1 h.hr).1).trans h.hr, own_belowS h.row hb, h.bl.trans (hb.mono h.bl.size)⟩
theorem HW.set {w : World} {hs v nx} {W : World} (h : HW w hs v nx W) (i : Nat) (x : Int) : HW w (hs.set i x) v nx (W.setCell ⟨w.heap.size, i, none⟩ (.int .i64 x)) := by
  have hke : Keep w.heap.size W (W.setCell ⟨w.heap.size, i, none⟩ (.int .i64 x)) := (Keep.refl _ _).setCell _ rfl _
  refine ⟨h.hr.set i x, h.row.kept hke ?_, h.bl.setCell (p := ⟨w.heap.size, i, none⟩) (Nat.le_refl _) _⟩
  cases hv : v.ownBlock with
  | none => exact Or.inl rfl
  | some g =>
    refine Or.inr fun e => ?_
    have := (h.row.lt g hv).1
    have := Option.some.inj e
    omega
theorem HW.start {w W : World} {hs : List Int} (h : HR w.heap.size 3 hs W) (hb : Below w.heap.size w W) : HW w hs (.slice (some ⟨W.heap.size, 0, none⟩) 1 1) [(0, 0)] (W.alloc (.cells #[.int .i64 0, .int .i64 0] 94)) := by
  have ba := (Below.refl W.heap.size W).alloc (Nat.le_refl _) (.cells #[.int .i64 0, .int .i64 0] 94)
  have hlt := (Array.getElem?_eq_some_iff.1 h).1
  refine ⟨(ba.block _ hlt).trans h, ⟨by simp [flatF, fcells], Or.inr ⟨W.heap.size, 1, #[.int .i64 0, .int .i64 0], rfl, by omega, World.alloc_heap_new W _, Nat.le_refl _, by unfold maxLen; omega, by simp, by simp [flatF, fcells]⟩⟩, hb.trans (ba.mono hb.size)⟩
theorem src_cells (w : World) (f : Int × Int) (j : Nat) (u : Value) (hu : (fcells f)[j]? = some u) : (w.alloc (.cells #[.int .i64 f.1, .int .i64 f.2] 94)).cell? ⟨w.heap.size, 0 + j, none⟩ = some u := by
  have := World.cell?_alloc_mark w #[.int .i64 f.1, .int .i64 f.2] 94 (0, 0) j
  rw [Nat.zero_add]
  refine this.trans ?_
  rw [← hu]
  simp [fcells]
/-- With an instruction in a block of its own. -/
structure HX (w : World) (hs : List Int) (v : Value) (nx : List (Int × Int)) (xb : Nat) (cs : Array Value) (W : World) : Prop where
  hw : HW w hs v nx W
  x : W.heap[xb]? = some (.cells cs 51 (0, 0))
  ne : v.ownBlock ≠ some xb
  gt : w.heap.size < xb
theorem HX.start {w W : World} {hs v nx} (h : HW w hs v nx W) (cs : Array Value) : HX w hs v nx W.heap.size cs (W.alloc (.cells cs 51)) := by
  have ba := (Below.refl W.heap.size W).alloc (Nat.le_refl _) (.cells cs 51)
  refine ⟨h.on ba, World.alloc_heap_new W _, fun e => ?_, (Array.getElem?_eq_some_iff.1 h.hr).1⟩
  have := (h.row.lt _ e).2
  omega
theorem HX.push {w W w' : World} {hs v nx xb cs} (h : HX w hs v nx xb cs W) (f : Int × Int) {v' : Value} (hown : w'.ownsRow (w.heap.size + 1) 94 2 v' (nx.length + 1) (flatF nx ++ fcells f))
    (hg : (W.alloc (.cells (fcells f).toArray 94)).grownBy w' v.ownBlock) (hw : v'.ownBlock = v.ownBlock ∨ v'.ownBlock = some (W.heap.size + 1)) : HX w hs v' (nx ++ [f]) xb cs w' := by
  have ba := (Below.refl W.heap.size W).alloc (Nat.le_refl _) (.cells (fcells f).toArray 94)
  have h1 := h.hw.on ba
  have hxl := (Array.getElem?_eq_some_iff.1 h.x).1
  have hsz : (W.alloc (.cells (fcells f).toArray 94)).heap.size = W.heap.size + 1 := by simp
  have nb : v.ownBlock ≠ some w.heap.size := fun e => by have := (h.hw.row.lt _ e).1; omega
  refine ⟨⟨(hg.block _ (Array.getElem?_eq_some_iff.1 h1.hr).1 nb.symm).trans h1.hr, ?_, h1.bl.trans ((Below.refl w.heap.size _).grown hg h1.bl.size (fun k hk => by have := (h.hw.row.lt k hk).1; omega))⟩, (hg.block _ (by omega) (h.ne).symm).trans ((ba.block _ hxl).trans h.x), ?_, h.gt⟩
  · rw [List.length_append]
    have e : flatF (nx ++ [f]) = flatF nx ++ fcells f := by simp [flatF]
    rw [e]
    exact hown
  · rcases hw with e | e
    · rw [e]; exact h.ne
    · rw [e]; intro e2; have := Option.some.inj e2; omega
def Rest (n : Nat) (body : Bool) (R : Bool) (code : List In) (k : Nat) (hs : List Int) (nx : List (Int × Int)) : Prop :=
  hs.length = n + 1 ∧ (∀ q, k ≤ q → q < n + 1 → hs[q]? = some (-1)) ∧ (∀ f ∈ nx, 0 ≤ f.2 ∧ f.2 ≤ (k : Int)) ∧ nx.length ≤ 2 * k + 1 ∧ docW n body k (code.drop k) nx = R
theorem gath_range {at0 : Int} {b : Int} : ∀ (nx : List (Int × Int)) (s v : Int), (∀ f ∈ nx, 0 ≤ f.2 ∧ f.2 ≤ b) → (-1 ≤ s ∧ s ≤ b) → gath at0 nx s = some v → -1 ≤ v ∧ v ≤ b
  | [], s, v, _, hs, h => by simp [gath] at h; omega
  | f :: r, s, v, hp, hs, h => by
    rw [gath] at h
    have h1 := hp f (by simp)
    split at h
    · split at h
      · simp at h
      · exact gath_range r f.2 v (fun g hg => hp g (by simp [hg])) (by omega) h
    · exact gath_range r s v (fun g hg => hp g (by simp [hg])) hs h
theorem Rest.on {n : Nat} {body R : Bool} {code : List In} {k : Nat} {hs : List Int} {nx : List (Int × Int)} (h : Rest n body R code k hs nx) (s : Int) (nx' : List (Int × Int)) (h1 : ∀ f ∈ nx', 0 ≤ f.2 ∧ f.2 ≤ (k : Int) + 1) (h2 : nx'.length ≤ 2 * k + 3) (h3 : docW n body (k + 1) (code.drop (k + 1)) nx' = R) : Rest n body R code (k + 1) (hs.set k s) nx' :=
  ⟨by rw [List.length_set]; exact h.1, fun q hq1 hq2 => by rw [List.getElem?_set_ne (by omega)]; exact h.2.1 q (by omega) hq2, fun f hf => by have := h1 f hf; omega, by omega, h3⟩
set_option maxRecDepth 100000 in
set_option maxHeartbeats 12800000 in
theorem Heights_any (ca : Option Addr) (cc n : Nat) (code : List In) (body : Bool) (w : World) (hn : n = code.length) (hl : CL w.heap.size w ca code) (hc : n ≤ cc) (h6 : n ≤ 6000) (hok : ∀ x ∈ code, InOk n x) (h8 : ∀ x ∈ code, x.op = 8 → x.a ≤ 2000) :
    Calls Tryd.prog 38 #[.slice ca n cc, .bool body] w fun e w' => e = .returned (.bool (docW n body 0 code [(0, 0)])) ∧ Below w.heap.size w w' := by
  obtain ⟨R, hR⟩ : ∃ r, r = docW n body 0 code [(0, 0)] := ⟨_, rfl⟩
  rw [← hR]
  have HRR := hidd hR
  have HN := hidd hn
  have HL := hidd hl
  have HOK := hidd hok
  have H8 := hidd h8
  obtain ⟨m, hm⟩ : ∃ m, m = n + 1 := ⟨_, rfl⟩
  have HM := hidd hm
  have hmk := make_ints n m ((n : Int) + 1) rfl hm h6 w
  have N0 := hidd (World.alloc_heap_new w (.cells (Array.replicate m (Value.int .i64 0)) 3))
  have B0 := hidd ((Below.refl w.heap.size w).alloc (Nat.le_refl _) (.cells (Array.replicate m (Value.int .i64 0)) 3))
  have hm6 : m ≤ 6001 := by omega
  clear hR hn hl hok h8 hm
  go_enter Tryd.func38, Tryd.ntmps38
  go_upto_region 2 with fail
  clear hmk
  generalize w.alloc (.cells (Array.replicate m (Value.int .i64 0)) 3) = V0 at N0 B0 ⊢
  obtain ⟨N, hN⟩ : ∃ N, N = w.heap.size := ⟨_, rfl⟩
  have HNN := hidd hN
  rw [← hN] at N0 ⊢
  clear hN
  go_wp2_with fail
  go_loopw [21] (fun i wr => ∃ k : Nat, k ≤ m ∧ i = .int .i64 k ∧ Hid (HR N 3 (List.replicate k (-1) ++ List.replicate (m - k) 0) wr ∧ Below w.heap.size w wr)) (fun i _ => m - (intOf i).toNat)
  case atStart =>
    refine ⟨0, Nat.zero_le _, rfl, ?_, B0.out⟩
    unfold HR
    rw [N0.out]
    simp
  case round =>
  obtain ⟨k, hk, rfl, HK⟩ := hrel
  by_cases hkl : k < m
  · have c0 := HK.out.1.cell (i := k) (by simp; omega)
    have c1 := HK.out.1.loose k
    have hs := HK.out.1.set k (-1)
    rw [fill_set k m hkl] at hs
    have HS := hidd hs
    have HBS := hidd (HK.out.2.setCell (p := ⟨N, k, none⟩) (by show w.heap.size ≤ N; rw [HNN.out]; exact Nat.le_refl _) (.int .i64 (-1)))
    clear hs HK
    go_wp2_with fail
    go_roundw
    case rel => exact ⟨k + 1, by omega, by go_num, HS.out, HBS.out⟩
    case measure => simp [intOf]; omega
  · obtain rfl : k = m := by omega
    have hhr : HR w.heap.size 3 (List.replicate k (-1)) wr := by
      have := HK.out.1
      rw [HNN.out, Nat.sub_self, List.replicate_zero, List.append_nil] at this
      exact this
    have HST := hidd (HW.start hhr HK.out.2)
    clear hhr HK
    go_upto_region 8 with fail
    generalize wr.alloc (.cells #[.int .i64 0, .int .i64 0] 94) = V1 at HST ⊢
    generalize wr.heap.size = nb at HST ⊢
    go_wp2_with fail
    go_loopw [32, 7] (fun i v wr => ∃ (q : Nat) (hs : List Int) (nx : List (Int × Int)), q ≤ n ∧ i = .int .i64 q ∧ Hid (HW w hs v nx wr ∧ Rest n body R code q hs nx)) (fun i _ _ => n - (intOf i).toNat)
    case atStart =>
      refine ⟨0, _, _, Nat.zero_le _, rfl, HST.out, by rw [List.length_replicate, HM.out], fun q _ hq => ?_, by simp, by simp, by rw [HRR.out]; rfl⟩
      rw [List.getElem?_replicate, if_pos (by rw [HM.out]; exact hq)]
    case round =>
    obtain ⟨q, hs, nx, hq, rfl, HQ⟩ := hrel
    by_cases hql : q < n
    · have hqc : q < code.length := by rw [← HN.out]; exact hql
      have hqk : q < k := by rw [HM.out]; omega
      obtain ⟨x, hx⟩ : ∃ x, code[q]? = some x := ⟨_, List.getElem?_eq_getElem hqc⟩
      have hdrop : code.drop q = x :: code.drop (q + 1) := by rw [List.drop_eq_getElem_cons hqc]; congr 1; rw [List.getElem?_eq_getElem hqc] at hx; exact Option.some.inj hx
      have HD := hidd hdrop
      have HX0 := hidd hx
      have HXM := hidd (List.mem_of_getElem? hx)
      obtain ⟨va, vc, rfl, hvc⟩ := own_sliceS HQ.out.1.row
      obtain ⟨L, hL⟩ : ∃ L, L = nx.length := ⟨_, rfl⟩
      have HLL := hidd hL
      rw [← hL] at hvc HQ ⊢
      have hL6 : L ≤ 20000 := by have := HQ.out.2.2.2.2.1; omega
      have hset : hs.set q (-1) = hs := by
        have := HQ.out.2.2.1 q (Nat.le_refl _) (by omega)
        apply List.ext_getElem?
        intro i
        by_cases e : i = q
        · subst e
          rw [List.getElem?_set_self (by have := HQ.out.2.1; omega), this]
        · rw [List.getElem?_set_ne (by omega)]
      have HQ2 := hidd HQ.out.2
      have HQ1 : Hid (HW w (hs.set q (-1)) (.slice va L vc) nx wr) := by rw [hset]; exact HQ.out.1
      clear HQ hdrop hx hqc hL hset
      go_wp2_with fail
      go_loopw [37] (fun i wz => ∃ (j : Nat) (s : Int), j ≤ L ∧ i = .int .i64 j ∧ Hid (gath (q : Int) (nx.take j) (-1) = some s ∧ HW w (hs.set q s) (.slice va L vc) nx wz)) (fun i _ => L - (intOf i).toNat)
      case atStart => exact ⟨0, -1, Nat.zero_le _, rfl, by simp [gath], HQ1.out⟩
      case round =>
      obtain ⟨j, s, hj, rfl, HJ⟩ := hrel
      have hsl : (hs.set q s).length = n + 1 := by rw [List.length_set]; exact HQ2.out.1
      have sq : (hs.set q s).getD q (-1) = s := by
        rw [List.getD_eq_getElem?_getD, List.getElem?_set_self (by have := HQ2.out.1; omega)]
        rfl
      have e0 := HJ.out.2.hr.cell (i := q) (by omega)
      rw [sq, ← HNN.out] at e0
      by_cases hjl : j < L
      · obtain ⟨f, hf⟩ : ∃ f, nx[j]? = some f := ⟨_, List.getElem?_eq_getElem (by rw [← HLL.out]; exact hjl)⟩
        have HF := hidd hf
        obtain ⟨g, vc', hva, _, hgb, hg, _, hgc⟩ := own_atS HJ.out.2.row (by rw [← HLL.out]; omega)
        have hva' : va = some ⟨g, 0, none⟩ := by injection hva
        have f0 : wr.cell? ⟨g, j * 2, none⟩ = some (.int .i64 f.1) := hgc (j * 2) _ ((flatF_at nx j 0 f hf (by decide)).trans rfl)
        have f1 : wr.cell? ⟨g, j * 2 + 1, none⟩ = some (.int .i64 f.2) := hgc (j * 2 + 1) _ ((flatF_at nx j 1 f hf (by decide)).trans rfl)
        subst hva'
        have hba := (Below.refl wr.heap.size wr).alloc (Nat.le_refl _) (.cells #[.int .i64 f.1, .int .i64 f.2] 94)
        have HJ2 := hidd (HJ.out.2.on hba)
        have HG := hidd HJ.out.1
        have p0 : (wr.alloc (.cells #[.int .i64 f.1, .int .i64 f.2] 94)).cell? ⟨wr.heap.size, 0, none⟩ = some (.int .i64 f.1) := (cellO (World.alloc_heap_new wr _)).trans rfl
        have p1 : (wr.alloc (.cells #[.int .i64 f.1, .int .i64 f.2] 94)).cell? ⟨wr.heap.size, 1, none⟩ = some (.int .i64 f.2) := (cellO (World.alloc_heap_new wr _)).trans rfl
        have htk : nx.take (j + 1) = nx.take j ++ [f] := by rw [List.take_add_one, hf]; rfl
        have HTK := hidd htk
        clear hf hva hgc hba HJ htk hgb hg e0
        go_upto_region 14 with fail
        clear f0 f1
        generalize wr.alloc (.cells #[.int .i64 f.1, .int .i64 f.2] 94) = V2 at HJ2 p0 p1 ⊢
        generalize wr.heap.size = fb at p0 p1 ⊢
        have e0 := HJ2.out.hr.cell (i := q) (by omega)
        have e1 := HJ2.out.hr.loose q
        rw [sq, ← HNN.out] at e0
        rw [← HNN.out] at e1
        by_cases hfq : f.1 = (q : Int)
        · have hne : (f.1 != (q : Int)) = false := by simp [hfq]
          have hgt : gath (q : Int) (nx.take (j + 1)) (-1) = if 0 ≤ s ∧ s ≠ f.2 then none else some f.2 := by
            rw [HTK.out, gath_app, HG.out]
            simp only [Option.bind_some]
            rw [gath, if_pos hfq]
            split <;> rfl
          have HGT := hidd hgt
          clear hgt hfq
          by_cases hs0 : 0 ≤ s
          · have d0 : decide (s ≥ 0) = true := by simp; omega
            have d0' : decide (0 ≤ s) = true := by simp; omega
            by_cases hsf : s = f.2
            · have d1 : (s != f.2) = false := by simp [hsf]
              have hg2 := HGT.out
              rw [if_neg (by omega)] at hg2
              have HGN := hidd hg2
              clear hg2 hsf
              go_upto_region 15 with fail
              go_quiet (fail)
              have hbd := below_drewN (Below.refl V2.heap.size V2) nq
              have HJ3 := hidd (HJ2.out.on hbd)
              have p1' := (hbd.cell (p := ⟨fb, 1, none⟩) (World.block_lt_of_cell? _ _ p1)).trans p1
              clear hbd p0 p1 e0 e1
              generalize V2.drewN nq = V3 at HJ3 p1' ⊢
              have e0 := HJ3.out.hr.cell (i := q) (by omega)
              have e1 := HJ3.out.hr.loose q
              rw [sq, ← HNN.out] at e0
              rw [← HNN.out] at e1
              have hset2 := HJ3.out.set q f.2
              rw [List.set_set, ← HNN.out] at hset2
              have HS2 := hidd hset2
              clear hset2
              go_wp2_with fail
              go_roundw
              case rel => exact ⟨j + 1, f.2, by omega, by go_num, HGN.out, HS2.out⟩
              case measure => simp [intOf]; omega
            · have d1 : (s != f.2) = true := by simpa using hsf
              have hg2 := HGT.out
              rw [if_pos ⟨hs0, hsf⟩] at hg2
              have hRf : R = false := by
                have hdoc := HQ2.out.2.2.2.2
                have e2 : gath (q : Int) nx (-1) = none := by
                  rw [← List.take_append_drop (j + 1) nx, gath_app, hg2]
                  rfl
                rw [HD.out, docW, e2] at hdoc
                exact hdoc.symm
              subst hRf
              clear hg2 HGT
              go_upto_region 15 with fail
              go_quiet (fail)
              go_wp2_with fail
              go_ret
              exact ⟨rfl, below_drewN HJ2.out.bl nq⟩
          · have d0 : decide (s ≥ 0) = false := by simp; omega
            have d0' : decide (0 ≤ s) = false := by simp; omega
            have hg2 := HGT.out
            rw [if_neg (by omega)] at hg2
            have HGN := hidd hg2
            clear hg2
            go_upto_region 15 with fail
            go_quiet (fail)
            have hbd := below_drewN (Below.refl V2.heap.size V2) nq
            have HJ3 := hidd (HJ2.out.on hbd)
            have p1' := (hbd.cell (p := ⟨fb, 1, none⟩) (World.block_lt_of_cell? _ _ p1)).trans p1
            clear hbd p0 p1 e0 e1
            generalize V2.drewN nq = V3 at HJ3 p1' ⊢
            have e0 := HJ3.out.hr.cell (i := q) (by omega)
            have e1 := HJ3.out.hr.loose q
            rw [sq, ← HNN.out] at e0
            rw [← HNN.out] at e1
            have hset2 := HJ3.out.set q f.2
            rw [List.set_set, ← HNN.out] at hset2
            have HS2 := hidd hset2
            clear hset2
            go_wp2_with fail
            go_roundw
            case rel => exact ⟨j + 1, f.2, by omega, by go_num, HGN.out, HS2.out⟩
            case measure => simp [intOf]; omega
        · have hne : (f.1 != (q : Int)) = true := by simpa using hfq
          have hg2 : gath (q : Int) (nx.take (j + 1)) (-1) = some s := by
            rw [HTK.out, gath_app, HG.out]
            simp only [Option.bind_some]
            rw [gath, if_neg hfq]
            rfl
          have HGN := hidd hg2
          clear hg2 hfq
          go_wp2_with fail
          go_roundw
          case rel => exact ⟨j + 1, s, by omega, by go_num, HGN.out, HJ2.out⟩
          case measure => simp [intOf]; omega
      · obtain rfl : j = L := by omega
        have hg : gath (q : Int) nx (-1) = some s := by
          have := HJ.out.1
          rw [List.take_of_length_le (by rw [← HLL.out]; exact Nat.le_refl _)] at this
          exact this
        have hsr := gath_range (b := (q : Int)) nx (-1) s HQ2.out.2.2.1 (by omega) hg
        have HG := hidd hg
        have HJ2 := hidd HJ.out.2
        have hdoc := HQ2.out.2.2.2.2
        rw [HD.out, docW, hg] at hdoc
        simp only at hdoc
        have HDOC := hidd hdoc
        clear hg hdoc HJ
        by_cases hs0 : s < 0
        · have d0 : decide (s < 0) = true := by simpa using hs0
          have hRf : R = false := by
            have := HDOC.out
            rw [if_pos hs0] at this
            exact this.symm
          subst hRf
          go_wp2_with fail
          go_ret
          exact ⟨rfl, HJ2.out.bl⟩
        · have d0 : decide (s < 0) = false := by simpa using hs0
          have hs1 : 0 ≤ s := by omega
          have hdoc := HDOC.out
          rw [if_neg hs0] at hdoc
          have HDOC := hidd hdoc
          clear hdoc hs0
          obtain ⟨ib, io, rfl, hib, hins⟩ : ∃ b o, ca = some ⟨b, o, none⟩ ∧ b < w.heap.size ∧ ∀ i x, code[i]? = some x → ∃ qa qc, IL w.heap.size w b (o + i * 11) x qa qc := by
            rcases HL.out with h | h
            · have := HX0.out; rw [h] at this; simp at this
            · exact h
          obtain ⟨xa, xc, hil⟩ := hins q x HX0.out
          have hilz := hil.below hib HJ2.out.bl
          have a0 := hilz.c0
          have a1 := hilz.c1
          have a2 := hilz.c2
          have a3 := hilz.c3
          have a4 := hilz.c4
          have a5 := hilz.c5
          have a6 := hilz.c6
          have a7 := hilz.c7
          have a8 := hilz.c8
          have a9 := hilz.c9
          have a10 := hilz.c10
          have XS := hidd (HX.start HJ2.out #[.int .i64 x.op, .int .i64 x.a, .int .i64 x.n, .string x.lib, .string x.own, .int .i64 x.quote.kind, .int .i64 x.quote.n, .string x.quote.name, .int .i64 x.quote.stamp, .int .i64 x.quote.lib, .slice xa x.quote.kids.length xc])
          clear hil hilz hins
          go_upto_region 23 with fail
          clear a0 a1 a2 a3 a4 a5 a6 a7 a8 a9 a10 e0 d0 HJ2
          generalize wr.alloc (.cells #[.int .i64 x.op, .int .i64 x.a, .int .i64 x.n, .string x.lib, .string x.own, .int .i64 x.quote.kind, .int .i64 x.quote.n, .string x.quote.name, .int .i64 x.quote.stamp, .int .i64 x.quote.lib, .slice xa x.quote.kids.length xc] 51) = V3 at XS ⊢
          generalize wr.heap.size = xb at XS ⊢
          have y0 : V3.cell? ⟨xb, 0, none⟩ = some (.int .i64 x.op) := (cellO XS.out.x).trans rfl
          have y1 : V3.cell? ⟨xb, 1, none⟩ = some (.int .i64 x.a) := (cellO XS.out.x).trans rfl
          have hxo := HOK.out x HXM.out
          by_cases h15 : x.op = 15
          · rw [h15] at y0
            have hdoc := HDOC.out
            rw [if_pos h15] at hdoc
            have HDOC := hidd hdoc
            clear hdoc h15
            have RST : Hid (docW n body (q + 1) (code.drop (q + 1)) nx = R → Rest n body R code (q + 1) (hs.set q s) nx) := fun h => HQ2.out.on s nx (fun f hf => by have := HQ2.out.2.2.1 f hf; omega) (by have := HQ2.out.2.2.2.1; omega) h
            cases body with
            | true =>
              by_cases e : s = 0
              · have hd2 := HDOC.out
                rw [if_neg (by simp [e])] at hd2
                have HD2 := hidd hd2
                have e2 : (s != 0) = false := by simp [e]
                clear hd2 e
                go_wp2_with fail
                go_roundw
                case rel => exact ⟨q + 1, _, nx, by omega, by go_num, XS.out.hw, RST.out HD2.out⟩
                case measure => simp [intOf]; omega
              · have hRf : R = false := by have := HDOC.out; rw [if_pos (by simp [e])] at this; exact this.symm
                have e2 : (s != 0) = true := by simpa using e
                subst hRf
                clear e
                go_wp2_with fail
                go_ret
                exact ⟨rfl, XS.out.hw.bl⟩
            | false =>
              by_cases e : s = 1
              · have hd2 := HDOC.out
                rw [if_neg (by simp [e])] at hd2
                have HD2 := hidd hd2
                have e2 : (s != 1) = false := by simp [e]
                clear hd2 e
                go_wp2_with fail
                go_roundw
                case rel => exact ⟨q + 1, _, nx, by omega, by go_num, XS.out.hw, RST.out HD2.out⟩
                case measure => simp [intOf]; omega
              · have hRf : R = false := by have := HDOC.out; rw [if_pos (by simp [e])] at this; exact this.symm
                have e2 : (s != 1) = true := by simpa using e
                subst hRf
                clear e
                go_wp2_with fail
                go_ret
                exact ⟨rfl, XS.out.hw.bl⟩
          · have h15' : (x.op == 15) = false := by simpa using h15
            have hdoc := HDOC.out
            rw [if_neg h15] at hdoc
            have HDOC := hidd hdoc
            clear hdoc
            obtain ⟨dn, hdn⟩ : ∃ d, d = (downUp x).1 := ⟨_, rfl⟩
            obtain ⟨up, hup⟩ : ∃ d, d = (downUp x).2 := ⟨_, rfl⟩
            rw [← hdn, ← hup] at HDOC
            have hdn0 : 0 ≤ dn ∧ dn ≤ 2001 := by
              rw [hdn]; unfold downUp
              have h1 := hxo.2.2.2
              have h2 := H8.out x HXM.out
              (repeat' split) <;> simp <;> omega
            have hup0 : 0 ≤ up ∧ up ≤ 1 := by
              rw [hup]; unfold downUp
              (repeat' split) <;> simp
            have HDN := hidd hdn
            have HUP := hidd hup
            have HOP := hidd (And.intro hxo.1 hxo.2.1)
            have HJP := hidd hxo.2.2.1
            have h81 := hxo.2.2.2
            have h82 := H8.out x HXM.out
            have H81 := hidd h81
            have H82 := hidd h82
            have H15 := hidd h15
            clear hdn hup hxo h81 h82 h15
            obtain ⟨xp, hxp⟩ : ∃ v, v = x.op := ⟨_, rfl⟩
            rw [← hxp] at y0 h15'
            have HXP := hidd hxp
            clear hxp
            go_upto_block 6 with fail
            go_cut [13, 14] from 93 to 106 (fun s13 s14 wx => s13 = .int .i64 dn ∧ s14 = .int .i64 up ∧ wx = V3)
            case first =>
              have ha2 : xp = 8 → 0 ≤ x.a ∧ x.a ≤ 2000 := fun e => ⟨H81.out (HXP.out.symm.trans e), H82.out (HXP.out.symm.trans e)⟩
              clear h15'
              by_cases e8 : xp = 8
              · subst e8
                have ha3 := ha2 rfl
                clear ha2
                go_wp2_with fail
                go_meet
                case rel => exact ⟨by rw [HDN.out]; unfold downUp; rw [← HXP.out]; simp, by rw [HUP.out]; unfold downUp; rw [← HXP.out]; simp, rfl⟩
              · clear ha2
                have f8 : (xp == 8) = false := by simpa using e8
                by_cases e9 : xp = 9
                · subst e9
                  go_wp2_with fail
                  go_meet
                  case rel => exact ⟨by rw [HDN.out]; unfold downUp; rw [← HXP.out]; simp, by rw [HUP.out]; unfold downUp; rw [← HXP.out]; simp, rfl⟩
                · have f9 : (xp == 9) = false := by simpa using e9
                  by_cases e10 : xp = 10
                  · subst e10
                    go_wp2_with fail
                    go_meet
                    case rel => exact ⟨by rw [HDN.out]; unfold downUp; rw [← HXP.out]; simp, by rw [HUP.out]; unfold downUp; rw [← HXP.out]; simp, rfl⟩
                  · have f10 : (xp == 10) = false := by simpa using e10
                    by_cases e14 : xp = 14
                    · subst e14
                      go_wp2_with fail
                      go_meet
                      case rel => exact ⟨by rw [HDN.out]; unfold downUp; rw [← HXP.out]; simp, by rw [HUP.out]; unfold downUp; rw [← HXP.out]; simp, rfl⟩
                    · have f14 : (xp == 14) = false := by simpa using e14
                      by_cases e11 : xp = 11
                      · subst e11
                        go_wp2_with fail
                        go_meet
                        case rel => exact ⟨by rw [HDN.out]; unfold downUp; rw [← HXP.out]; simp, by rw [HUP.out]; unfold downUp; rw [← HXP.out]; simp, rfl⟩
                      · have f11 : (xp == 11) = false := by simpa using e11
                        by_cases e12 : xp = 12
                        · subst e12
                          go_wp2_with fail
                          go_meet
                          case rel => exact ⟨by rw [HDN.out]; unfold downUp; rw [← HXP.out]; simp, by rw [HUP.out]; unfold downUp; rw [← HXP.out]; simp, rfl⟩
                        · have f12 : (xp == 12) = false := by simpa using e12
                          by_cases e13 : xp = 13
                          · subst e13
                            go_wp2_with fail
                            go_meet
                            case rel => exact ⟨by rw [HDN.out]; unfold downUp; rw [← HXP.out]; simp, by rw [HUP.out]; unfold downUp; rw [← HXP.out]; simp, rfl⟩
                          · have f13 : (xp == 13) = false := by simpa using e13
                            have HE := hidd (And.intro e8 (And.intro e9 (And.intro e10 (And.intro e14 (And.intro e11 (And.intro e12 e13))))))
                            clear e8 e9 e10 e14 e11 e12 e13
                            go_wp2_with fail
                            go_meet
                            case rel =>
                              obtain ⟨k8, k9, k10, k14, k11, k12, k13⟩ := HE.out
                              exact ⟨by rw [HDN.out]; unfold downUp; rw [← HXP.out]; simp [k8, k9, k10, k14, k11, k12, k13], by rw [HUP.out]; unfold downUp; rw [← HXP.out]; simp [k8, k9, k10, k14, k11, k12, k13], rfl⟩
            case rest =>
            obtain ⟨rfl, rfl, hwc⟩ := hcut
            subst hwc
            by_cases hlt : s < dn
            · have d1 : decide (s < dn) = true := by simpa using hlt
              have hRf : R = false := by have := HDOC.out; rw [if_pos hlt] at this; exact this.symm
              subst hRf
              clear hlt
              go_wp2_with fail
              go_ret
              exact ⟨rfl, XS.out.hw.bl⟩
            · have d1 : decide (s < dn) = false := by simpa using hlt
              have hdoc := HDOC.out
              rw [if_neg hlt, ← HXP.out] at hdoc
              have HDOC := hidd hdoc
              have hh0 : 0 ≤ s - dn + up := by omega
              have hh1 : s - dn + up ≤ (q : Int) + 1 := by omega
              have RST : Hid (∀ nx', (∀ f ∈ nx', 0 ≤ f.2 ∧ f.2 ≤ (q : Int) + 1) → nx'.length ≤ 2 * q + 3 → docW n body (q + 1) (code.drop (q + 1)) nx' = R → Rest n body R code (q + 1) (hs.set q s) nx') := fun nx' h1 h2 h3 => HQ2.out.on s nx' h1 h2 h3
              clear hdoc hlt
              go_upto_region 42 with fail
              obtain ⟨i0, hinf, hz0, hz1, hz2⟩ := info_parts infoFrom
              generalize s - dn + up = h at HDOC hh0 hh1 ⊢
              clear d1
              by_cases h9 : xp = 9
              · subst h9
                rcases (Or.inl rfl : (9 : Int) = 9 ∨ False) with _ | e
                · have hgo : goes q x h = [(x.a, h)] := by unfold goes; rw [← HXP.out]; simp
                  by_cases hle : x.a ≤ (q : Int)
                  · have hRf : R = false := by have := HDOC.out; rw [if_pos ⟨Or.inl rfl, hle⟩] at this; exact this.symm
                    have d2 : decide (x.a ≤ (q : Int)) = true := by simpa using hle
                    subst hRf
                    clear hle
                    go_wp2_with fail
                    go_ret
                    exact ⟨rfl, XS.out.hw.bl⟩
                  · have d2 : decide (x.a ≤ (q : Int)) = false := by simpa using hle
                    have hdc := HDOC.out
                    rw [if_neg (fun c => hle c.2), if_neg (fun c => c.1 rfl), hgo] at hdc
                    have DC := hidd hdc
                    have GO : Hid (∀ f ∈ nx ++ [(x.a, h)], 0 ≤ f.2 ∧ f.2 ≤ (q : Int) + 1) := fun f hf => by
                      rcases List.mem_append.1 hf with hf | hf
                      · have := HQ2.out.2.2.1 f hf; omega
                      · simp at hf; rw [hf]; exact ⟨hh0, hh1⟩
                    have LN : Hid ((nx ++ [(x.a, h)]).length ≤ 2 * q + 3) := by show (nx ++ [(x.a, h)]).length ≤ 2 * q + 3; rw [List.length_append]; have := HQ2.out.2.2.2.1; simp; omega
                    clear hle hdc hgo
                    have OWN : Hid ((wc.alloc (.cells #[.int .i64 x.a, .int .i64 h] 94)).ownsRow (w.heap.size + 1) 94 2 (.slice va j vc) j (flatF nx)) := by
                      have := own_belowS XS.out.hw.row ((Below.refl wc.heap.size wc).alloc (Nat.le_refl _) (.cells #[.int .i64 x.a, .int .i64 h] 94))
                      rw [← HLL.out] at this
                      exact this
                    have SRC := hidd (src_cells wc (x.a, h))
                    have BAS : w.heap.size + 1 ≤ (wc.alloc (.cells #[.int .i64 x.a, .int .i64 h] 94)).heap.size := by
                      have := (Array.getElem?_eq_some_iff.1 XS.out.hw.hr).1
                      simp
                      omega
                    go_wp2_with (at_builtin; refine wpList_rowS rfl _ _ 95 rfl (w.heap.size + 1) 94 i0 _ 2 16 Tryd.underlying95 hinf hz0 hz1 hz2 rfl (by decide) (.slice va j vc) j (flatF nx) rfl OWN.out (some ⟨wc.heap.size, 0, none⟩) 1 1 (fcells (x.a, h)) rfl rfl (Or.inr ⟨_, 0, rfl, SRC.out⟩) (fcells_one _) (by unfold maxLen; omega) (by omega) BAS ?_)
                    intro v4 W4 hown4 hg4 hw4
                    have XT := hidd (XS.out.push (x.a, h) (by rw [← HLL.out]; exact hown4) hg4 hw4)
                    obtain ⟨va4, vc4, rfl, hvc4⟩ := own_sliceS hown4
                    clear hown4 hg4 hw4 OWN SRC BAS
                    try simp only [Act.put, List.setIfInBounds_toArray, List.set_cons_succ, List.set_cons_zero]
                    have y0' : W4.cell? ⟨xb, 0, none⟩ = some (.int .i64 9) := by rw [HXP.out]; exact (cellO XT.out.x).trans rfl
                    clear y0 y1
                    go_wp2_with fail
                    go_roundw
                    case rel => exact ⟨q + 1, _, nx ++ [(x.a, h)], by omega, by go_num, XT.out.hw, RST.out _ GO.out LN.out DC.out⟩
                    case measure => simp [intOf]; omega
                · exact e.elim
              · by_cases h10 : xp = 10
                · subst h10
                  rcases (Or.inl rfl : (9 : Int) = 9 ∨ False) with _ | e
                  · have hgo : goes q x h = [(x.a, h), ((q : Int) + 1, h)] := by unfold goes; rw [← HXP.out]; simp
                    by_cases hle : x.a ≤ (q : Int)
                    · have hRf : R = false := by have := HDOC.out; rw [if_pos ⟨Or.inr rfl, hle⟩] at this; exact this.symm
                      have d2 : decide (x.a ≤ (q : Int)) = true := by simpa using hle
                      subst hRf
                      clear hle
                      go_wp2_with fail
                      go_ret
                      exact ⟨rfl, XS.out.hw.bl⟩
                    · have d2 : decide (x.a ≤ (q : Int)) = false := by simpa using hle
                      have hdc := HDOC.out
                      rw [if_neg (fun c => hle c.2)] at hdc
                      have DC0 := hidd hdc
                      clear hle hdc
                      have OWN : Hid ((wc.alloc (.cells #[.int .i64 x.a, .int .i64 h] 94)).ownsRow (w.heap.size + 1) 94 2 (.slice va j vc) j (flatF nx)) := by
                        have := own_belowS XS.out.hw.row ((Below.refl wc.heap.size wc).alloc (Nat.le_refl _) (.cells #[.int .i64 x.a, .int .i64 h] 94))
                        rw [← HLL.out] at this
                        exact this
                      have SRC := hidd (src_cells wc (x.a, h))
                      have BAS : w.heap.size + 1 ≤ (wc.alloc (.cells #[.int .i64 x.a, .int .i64 h] 94)).heap.size := by
                        have := (Array.getElem?_eq_some_iff.1 XS.out.hw.hr).1
                        simp
                        omega
                      go_wp2_with (at_builtin; refine wpList_rowS rfl _ _ 95 rfl (w.heap.size + 1) 94 i0 _ 2 16 Tryd.underlying95 hinf hz0 hz1 hz2 rfl (by decide) (.slice va j vc) j (flatF nx) rfl OWN.out (some ⟨wc.heap.size, 0, none⟩) 1 1 (fcells (x.a, h)) rfl rfl (Or.inr ⟨_, 0, rfl, SRC.out⟩) (fcells_one _) (by unfold maxLen; omega) (by omega) BAS ?_)
                      intro v4 W4 hown4 hg4 hw4
                      have XT := hidd (XS.out.push (x.a, h) (by rw [← HLL.out]; exact hown4) hg4 hw4)
                      obtain ⟨va4, vc4, rfl, hvc4⟩ := own_sliceS hown4
                      clear hown4 hg4 hw4 OWN SRC BAS
                      try simp only [Act.put, List.setIfInBounds_toArray, List.set_cons_succ, List.set_cons_zero]
                      have y0' : W4.cell? ⟨xb, 0, none⟩ = some (.int .i64 10) := by rw [HXP.out]; exact (cellO XT.out.x).trans rfl
                      clear y0 y1
                      by_cases hend : q + 1 = n
                      · have hRf : R = false := by have := DC0.out; rw [if_pos ⟨by decide, hend⟩] at this; exact this.symm
                        have d3 : ((q : Int) + 1 == (n : Int)) = true := by simp; omega
                        subst hRf
                        clear hend
                        go_wp2_with fail
                        go_ret
                        exact ⟨rfl, XT.out.hw.bl⟩
                      · have d3 : ((q : Int) + 1 == (n : Int)) = false := by simp; omega
                        have hdc := DC0.out
                        rw [if_neg (fun c => hend c.2), hgo] at hdc
                        have DC : Hid (docW n body (q + 1) (code.drop (q + 1)) (nx ++ [(x.a, h)] ++ [((q : Int) + 1, h)]) = R) := by
                          rw [List.append_assoc]; exact hdc
                        have GO : Hid (∀ f ∈ nx ++ [(x.a, h)] ++ [((q : Int) + 1, h)], 0 ≤ f.2 ∧ f.2 ≤ (q : Int) + 1) := fun f hf => by
                          rcases List.mem_append.1 hf with hf | hf
                          · rcases List.mem_append.1 hf with hf | hf
                            · have := HQ2.out.2.2.1 f hf; omega
                            · simp at hf; rw [hf]; exact ⟨hh0, hh1⟩
                          · simp at hf; rw [hf]; exact ⟨hh0, hh1⟩
                        have LN : Hid ((nx ++ [(x.a, h)] ++ [((q : Int) + 1, h)]).length ≤ 2 * q + 3) := by show (nx ++ [(x.a, h)] ++ [((q : Int) + 1, h)]).length ≤ 2 * q + 3; rw [List.length_append, List.length_append]; have := HQ2.out.2.2.2.1; simp; omega
                        clear hend hdc hgo
                        have OWN : Hid ((W4.alloc (.cells #[.int .i64 ((q : Int) + 1), .int .i64 h] 94)).ownsRow (w.heap.size + 1) 94 2 (.slice va4 (j + 1) vc4) (j + 1) (flatF (nx ++ [(x.a, h)]))) := by
                          have := own_belowS XT.out.hw.row ((Below.refl W4.heap.size W4).alloc (Nat.le_refl _) (.cells #[.int .i64 ((q : Int) + 1), .int .i64 h] 94))
                          rw [show (nx ++ [(x.a, h)]).length = j + 1 by rw [List.length_append, HLL.out]; rfl] at this
                          exact this
                        have SRC := hidd (src_cells W4 (((q : Int) + 1), h))
                        have BAS : w.heap.size + 1 ≤ (W4.alloc (.cells #[.int .i64 ((q : Int) + 1), .int .i64 h] 94)).heap.size := by
                          have := (Array.getElem?_eq_some_iff.1 XT.out.hw.hr).1
                          simp
                          omega
                        go_wp2_with (at_builtin; refine wpList_rowS rfl _ _ 95 rfl (w.heap.size + 1) 94 i0 _ 2 16 Tryd.underlying95 hinf hz0 hz1 hz2 rfl (by decide) (.slice va4 ((j + 1)) vc4) ((j + 1)) (flatF (nx ++ [(x.a, h)])) rfl OWN.out (some ⟨W4.heap.size, 0, none⟩) 1 1 (fcells (((q : Int) + 1), h)) rfl rfl (Or.inr ⟨_, 0, rfl, SRC.out⟩) (fcells_one _) (by unfold maxLen; omega) (by omega) BAS ?_)
                        intro v4 W6 hown4 hg4 hw4
                        have XU := hidd (XT.out.push (((q : Int) + 1), h) (by rw [show (nx ++ [(x.a, h)]).length = j + 1 by rw [List.length_append, HLL.out]; rfl]; exact hown4) hg4 hw4)
                        obtain ⟨va6, vc6, rfl, hvc4⟩ := own_sliceS hown4
                        clear hown4 hg4 hw4 OWN SRC BAS
                        try simp only [Act.put, List.setIfInBounds_toArray, List.set_cons_succ, List.set_cons_zero]
                        clear y0'
                        go_wp2_with fail
                        go_roundw
                        case rel => exact ⟨q + 1, _, nx ++ [(x.a, h)] ++ [((q : Int) + 1, h)], by omega, by go_num, XU.out.hw, RST.out _ GO.out LN.out DC.out⟩
                        case measure => simp [intOf]; omega
                  · exact e.elim
                · rcases (Or.inl rfl : (9 : Int) = 9 ∨ False) with _ | e
                  · have hgo : goes q x h = [((q : Int) + 1, h)] := by unfold goes; rw [← HXP.out, if_neg (by omega), if_neg h9]; rfl
                    have d9 : (xp == 9) = false := by simpa using h9
                    have d10 : (xp == 10) = false := by simpa using h10
                    have d9' : (xp != 9) = true := by simpa using h9
                    have hdc := HDOC.out
                    rw [if_neg (fun c => by omega)] at hdc
                    have DC0 := hidd hdc
                    clear hdc
                    by_cases hend : q + 1 = n
                    · have hRf : R = false := by have := DC0.out; rw [if_pos ⟨h9, hend⟩] at this; exact this.symm
                      have d3 : ((q : Int) + 1 == (n : Int)) = true := by simp; omega
                      subst hRf
                      clear hend h9 h10
                      go_wp2_with fail
                      go_ret
                      exact ⟨rfl, XS.out.hw.bl⟩
                    · have d3 : ((q : Int) + 1 == (n : Int)) = false := by simp; omega
                      have hdc := DC0.out
                      rw [if_neg (fun c => hend c.2), hgo] at hdc
                      have DC := hidd hdc
                      have GO : Hid (∀ f ∈ nx ++ [((q : Int) + 1, h)], 0 ≤ f.2 ∧ f.2 ≤ (q : Int) + 1) := fun f hf => by
                        rcases List.mem_append.1 hf with hf | hf
                        · have := HQ2.out.2.2.1 f hf; omega
                        · simp at hf; rw [hf]; exact ⟨hh0, hh1⟩
                      have LN : Hid ((nx ++ [((q : Int) + 1, h)]).length ≤ 2 * q + 3) := by show (nx ++ [((q : Int) + 1, h)]).length ≤ 2 * q + 3; rw [List.length_append]; have := HQ2.out.2.2.2.1; simp; omega
                      clear hend hdc hgo h9 h10
                      have OWN : Hid ((wc.alloc (.cells #[.int .i64 ((q : Int) + 1), .int .i64 h] 94)).ownsRow (w.heap.size + 1) 94 2 (.slice va j vc) j (flatF nx)) := by
                        have := own_belowS XS.out.hw.row ((Below.refl wc.heap.size wc).alloc (Nat.le_refl _) (.cells #[.int .i64 ((q : Int) + 1), .int .i64 h] 94))
                        rw [← HLL.out] at this
                        exact this
                      have SRC := hidd (src_cells wc (((q : Int) + 1), h))
                      have BAS : w.heap.size + 1 ≤ (wc.alloc (.cells #[.int .i64 ((q : Int) + 1), .int .i64 h] 94)).heap.size := by
                        have := (Array.getElem?_eq_some_iff.1 XS.out.hw.hr).1
                        simp
                        omega
                      go_wp2_with (at_builtin; refine wpList_rowS rfl _ _ 95 rfl (w.heap.size + 1) 94 i0 _ 2 16 Tryd.underlying95 hinf hz0 hz1 hz2 rfl (by decide) (.slice va j vc) j (flatF nx) rfl OWN.out (some ⟨wc.heap.size, 0, none⟩) 1 1 (fcells (((q : Int) + 1), h)) rfl rfl (Or.inr ⟨_, 0, rfl, SRC.out⟩) (fcells_one _) (by unfold maxLen; omega) (by omega) BAS ?_)
                      intro v4 W4 hown4 hg4 hw4
                      have XT := hidd (XS.out.push (((q : Int) + 1), h) (by rw [← HLL.out]; exact hown4) hg4 hw4)
                      obtain ⟨va4, vc4, rfl, hvc4⟩ := own_sliceS hown4
                      clear hown4 hg4 hw4 OWN SRC BAS
                      try simp only [Act.put, List.setIfInBounds_toArray, List.set_cons_succ, List.set_cons_zero]
                      clear y0 y1
                      go_wp2_with fail
                      go_roundw
                      case rel => exact ⟨q + 1, _, nx ++ [((q : Int) + 1, h)], by omega, by go_num, XT.out.hw, RST.out _ GO.out LN.out DC.out⟩
                      case measure => simp [intOf]; omega
                  · exact e.elim
    · obtain rfl : q = n := by omega
      have hRt : R = true := by
        have := HQ.out.2.2.2.2.2
        rw [List.drop_of_length_le (by rw [← HN.out]; exact Nat.le_refl _), docW] at this
        exact this.symm
      subst hRt
      go_wp2_with fail
      go_ret
      exact ⟨rfl, HQ.out.1.bl⟩
end Go.Proofs.YtdnbingddbakaaaDoor
