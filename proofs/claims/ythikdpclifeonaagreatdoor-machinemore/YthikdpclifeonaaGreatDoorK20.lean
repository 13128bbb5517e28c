/- Chapter 9: WHAT IS WRONG WITH PROCEDURES; with a unit. -/
import Derived.Test.YthikdpclifeonaaGreatDoorK19
namespace Go.Proofs.YthikdpclifeonaaGreatDoor
set_option linter.unusedVariables false
set_option linter.unusedSimpArgs false
open Go.RowKit

theorem PL.mono {B B' : Nat} {w : World} {a : Option Addr} {ps : List Pro} (h : PL B w a ps) (hB : B ≤ B') : PL B' w a ps := by
  rcases h with h | ⟨b, o, ha, hb, h⟩
  · exact Or.inl h
  · refine Or.inr ⟨b, o, ha, by omega, fun i p hp => ?_⟩
    obtain ⟨ca, cc, h0, h1, h2, h3⟩ := h i p hp
    refine ⟨ca, cc, h0, h1, h2, ?_⟩
    rcases h3 with h3 | ⟨b, o, ha, hb, h3⟩
    · exact Or.inl h3
    · refine Or.inr ⟨b, o, ha, by omega, fun i x hx => ?_⟩
      obtain ⟨qa, qc, hi⟩ := h3 i x hx
      obtain ⟨f, hk⟩ := hi.lk
      exact ⟨qa, qc, hi.c0, hi.c1, hi.c2, hi.c3, hi.c4, hi.c5, hi.c6, hi.c7, hi.c8, hi.c9, hi.c10, hi.l3, hi.l4, hi.l7, hi.lq, f, Dc.stay (fun _ _ => rfl) (fun k hk => Nat.lt_of_lt_of_le hk hB) f _ _ hk⟩
theorem looseO {w : World} {N q : Nat} {cs : Array Value} {t : TypeId} (h : w.heap[N]? = some (.cells cs t (0, 0))) : w.frozen? ⟨N, q, none⟩ = false := by simp [World.frozen?, h]
theorem below_four {B C : Nat} {W u : World} (h : Below B W u) (hC : B ≤ C) (x0 x1 x2 x3 : Value) : Below B W ((((u.setCell ⟨C, 0, none⟩ x0).setCell ⟨C, 1, none⟩ x1).setCell ⟨C, 2, none⟩ x2).setCell ⟨C, 3, none⟩ x3) :=
  (((h.setCell (p := ⟨C, 0, none⟩) hC x0).setCell (p := ⟨C, 1, none⟩) hC x1).setCell (p := ⟨C, 2, none⟩) hC x2).setCell (p := ⟨C, 3, none⟩) hC x3
theorem four_at {C : Nat} {u : World} {z0 z1 z2 z3 : Value} {t : TypeId} (h : u.heap[C]? = some (.cells #[z0, z1, z2, z3] t (0, 0))) (x0 x1 x2 x3 : Value) : ((((u.setCell ⟨C, 0, none⟩ x0).setCell ⟨C, 1, none⟩ x1).setCell ⟨C, 2, none⟩ x2).setCell ⟨C, 3, none⟩ x3).heap[C]? = some (.cells #[x0, x1, x2, x3] t (0, 0)) := by
  have h1 := heap_setCell_same u C 0 _ t x0 h
  have h2 := heap_setCell_same _ C 1 _ t x1 h1
  have h3 := heap_setCell_same _ C 2 _ t x2 h2
  have h4 := heap_setCell_same _ C 3 _ t x3 h3
  rw [h4]
  rfl
theorem four_else {C D : Nat} {u : World} (h : D ≠ C) (x0 x1 x2 x3 : Value) : ((((u.setCell ⟨C, 0, none⟩ x0).setCell ⟨C, 1, none⟩ x1).setCell ⟨C, 2, none⟩ x2).setCell ⟨C, 3, none⟩ x3).heap[D]? = u.heap[D]? := by
  rw [Below.heap_setCell _ _ _ _ h, Below.heap_setCell _ _ _ _ h, Below.heap_setCell _ _ _ _ h, Below.heap_setCell _ _ _ _ h]
theorem kb_none (n : Nat) : KB (List.replicate n none) := by
  intro q s h
  rw [List.getElem?_replicate] at h
  split at h <;> simp at h
theorem CK.start {C G R n pc : Nat} {PP : List Pro} {pa : Option Addr} {gv : Value} {W0 u : World} (hl : PL W0.heap.size W0 pa PP) (hpc : PP.length = n ∧ n ≤ pc ∧ n ≤ 20000) (har : ∀ P, P ∈ PP → 0 ≤ P.args ∧ P.args ≤ 2000 ∧ 1 ≤ P.code.length ∧ P.code.length ≤ 6000) (hbs : True)
    (hg : u.heap[G]? = some (.cells (flatK (List.replicate n none)).toArray 232 (0, 0)) ∧ W0.heap.size ≤ G) (hr : u.heap[R]? = some (.cells (primNames.map Value.string).toArray 9 (0, 0)) ∧ W0.heap.size ≤ R) (hc : u.heap[C]? = some (.cells (#[.slice none 0 0, .slice none 0 0, .slice none 0 0, .nilFunc] : Array Value) 186 (0, 0)) ∧ W0.heap.size ≤ C)
    (hS : Below W0.heap.size W0 ((((u.setCell ⟨C, 0, none⟩ (.slice pa n pc)).setCell ⟨C, 1, none⟩ (.slice (some ⟨G, 0, none⟩) n n)).setCell ⟨C, 2, none⟩ (.slice (some ⟨R, 0, none⟩) 13 13)).setCell ⟨C, 3, none⟩ gv)) :
    CK W0.heap.size C G R PP pa pc n gv (List.replicate PP.length none) ((((u.setCell ⟨C, 0, none⟩ (.slice pa n pc)).setCell ⟨C, 1, none⟩ (.slice (some ⟨G, 0, none⟩) n n)).setCell ⟨C, 2, none⟩ (.slice (some ⟨R, 0, none⟩) 13 13)).setCell ⟨C, 3, none⟩ gv) := by
  obtain ⟨hn, hpc, h2⟩ := hpc
  have cg : C ≠ G := fun e => by
    have h1 := hc.1
    rw [e, hg.1] at h1
    simp at h1
  have cr : C ≠ R := fun e => by
    have h1 := hc.1
    rw [e, hr.1] at h1
    simp at h1
  have rg : R ≠ G := fun e => by
    have h1 := hr.1
    rw [e, hg.1] at h1
    simp at h1
  rw [hn]
  refine ⟨?_, ?_, ?_, cg, rg, hc.2, hg.2, hr.2, hl.below hS, by simp [hn], by omega, by omega, by omega, kb_none _, har⟩
  · rw [four_at hc.1, hn]; rfl
  · unfold KR
    rw [four_else (fun e => cg e.symm)]
    exact hg.1
  · rw [four_else (fun e => cr e.symm)]
    exact hr.1
theorem info139 : (Tryz.prog.info? 232).map (fun i => (i.zero, i.size, i.bytes)) = some (some (.agg #[.bool false, .bool false, .int .i64 0]), 3, 16) := by kernel_rfl
theorem made_known (n : Nat) : madeCells #[.bool false, .bool false, .int .i64 0] (n * 3) = (flatK (List.replicate n none)).toArray := by
  apply Array.ext
  · simp [size_madeCells, flatK_len]
  · intro i h1 h2
    rw [size_madeCells] at h1
    have e := flatK_at (List.replicate n none) (i / 3) (i % 3) none (by rw [List.getElem?_replicate, if_pos (by omega)]) (by omega)
    rw [show i / 3 * 3 + i % 3 = i by omega] at e
    have e2 : (flatK (List.replicate n none)).toArray[i]? = (stCells none)[i % 3]? := by simpa using e
    rw [Array.getElem?_eq_getElem h2] at e2
    have h3 : i % 3 = 0 ∨ i % 3 = 1 ∨ i % 3 = 2 := by omega
    simp only [madeCells, Array.getElem_map, Array.getElem_range]
    rcases h3 with h | h | h <;> rw [h] at e2 <;> simp [stCells] at e2 <;> rw [show (#[Value.bool false, Value.bool false, Value.int IntKind.i64 0] : Array Value).size = 3 from rfl, h] <;> exact e2.symm
theorem make_known (n : Nat) (hn : n ≤ 20000) (w : World) : (Instr.makeSlice 183 (.int .i64 n) (.int .i64 n)).run Tryz.prog w = .ok (.slice (some ⟨w.heap.size, 0, none⟩) n n) (w.alloc (.cells (flatK (List.replicate n none)).toArray 232)) := by
  obtain ⟨i0, hinf, hz0, hz1, hz2⟩ := info_parts info139
  have := run_makeSlice (P := Tryz.prog) w 183 232 i0 (.agg #[.bool false, .bool false, .int .i64 0]) Tryz.underlying183 hinf hz0 .i64 .i64 n n (by omega) (Int.le_refl _) (by rw [hz1]; simp; omega) (by rw [hz2]; omega) (by omega)
  rw [hz1] at this
  rw [← made_known]
  simpa [Value.cells] using this
/-- The table that the library reads. -/
def TabS (w : World) : Prop := Lib.TabIs Tryz.prog w "strings.asciiSpace" .u8 Lib.asciiSpaceTab
theorem TabS.below {w w' : World} (h : TabS w) (hb : Below w.heap.size w w') : TabS w' := by
  unfold TabS Lib.TabIs World.var? at h ⊢
  cases hg : Tryz.prog.globalNamed "strings.asciiSpace" with
  | none => rw [hg] at h; cases h
  | some g =>
    rw [hg] at h
    simp only [Option.bind_some] at h ⊢
    have hlt : g < w.heap.size := by
      rcases Nat.lt_or_ge g w.heap.size with h' | h'
      · exact h'
      · rw [Array.getElem?_eq_none h'] at h; cases h
    rw [hb.block g hlt]
    exact h
theorem sizesW_drop {PP : List Pro} {i : Nat} {P : Pro} (h : PP[i]? = some P) : sizesW (PP.drop i) = if sizeW P.args P.code.length = 0 then sizesW (PP.drop (i + 1)) else sizeW P.args P.code.length := by
  obtain ⟨hi, e⟩ := List.getElem?_eq_some_iff.1 h
  rw [List.drop_eq_getElem_cons hi, e, sizesW]
  unfold sizeW
  repeat' split
  all_goals first | rfl | omega
theorem sizesW_all : ∀ {PP : List Pro}, sizesW PP = 0 → ∀ P, P ∈ PP → 0 ≤ P.args ∧ P.args ≤ 2000 ∧ 1 ≤ P.code.length ∧ P.code.length ≤ 6000
  | [], _, P, hP => by simp at hP
  | Q :: r, h, P, hP => by
    unfold sizesW at h
    split at h
    · omega
    · split at h
      · omega
      · rcases List.mem_cons.1 hP with rfl | hP
        · omega
        · exact sizesW_all h P hP
/-- Numbers in memory. -/
def NL (B : Nat) (w : World) (a : Option Addr) (l : List Int) : Prop := l = [] ∨ ∃ b o, a = some ⟨b, o, none⟩ ∧ b < B ∧ ∀ i v, l[i]? = some v → w.cell? ⟨b, o + i, none⟩ = some (.int .i64 v)
set_option maxRecDepth 100000 in
set_option maxHeartbeats 1600000 in
theorem cbody_no (C i : Int) (n pb : Nat) (pa : Option Addr) (pc : Nat) (w : World) (Cb : Nat) (hno : i < 0 ∨ (n : Int) ≤ i) (c0 : w.cell? ⟨Cb, 0, none⟩ = some (.slice pa n pc)) :
    Calls Tryz.prog 81 #[.pointer (some ⟨Cb, 0, none⟩), .int .i64 i] w fun r w' => r = .returned (.int .i64 3) ∧ w' = w := by
  have B := hidd (below_any i n w)
  rw [if_neg (by omega)] at B
  go_enter Tryz.func81, Tryz.ntmps81
  go_wp2_with fail
  refine B.out.mono ?_
  rintro e w1 ⟨rfl, rfl⟩
  go_wp2_with fail
  go_ret
  exact ⟨rfl, rfl⟩
def bodyW (PP : List Pro) (b : Int) (K : Kn) : Int × Kn := if b < 0 ∨ (PP.length : Int) ≤ b then (3, K) else (if (PP.getD b.toNat ⟨0, []⟩).args = 0 then 0 else 3, K.set b.toNat (some (true, 0)))
theorem bodiesW_drop {PP : List Pro} {bs : List Int} {i : Nat} {b : Int} {K : Kn} (h : bs[i]? = some b) : (bodyW PP b K).1 = 0 → bodiesW PP (bs.drop i) K = bodiesW PP (bs.drop (i + 1)) (bodyW PP b K).2 := by
  obtain ⟨hi, e⟩ := List.getElem?_eq_some_iff.1 h
  rw [List.drop_eq_getElem_cons hi, e, bodiesW]
  unfold bodyW
  intro h0
  split
  · rw [if_pos (by assumption)] at h0; simp at h0
  · rw [if_neg (by assumption)] at h0
    simp only at h0 ⊢
    split at h0
    · rw [if_neg (by omega)]
    · omega
theorem bodiesW_bad {PP : List Pro} {bs : List Int} {i : Nat} {b : Int} {K : Kn} (h : bs[i]? = some b) : (bodyW PP b K).1 ≠ 0 → (bodiesW PP (bs.drop i) K).1 = (bodyW PP b K).1 := by
  obtain ⟨hi, e⟩ := List.getElem?_eq_some_iff.1 h
  rw [List.drop_eq_getElem_cons hi, e, bodiesW]
  unfold bodyW
  intro h0
  split
  · rfl
  · rw [if_neg (by assumption)] at h0
    simp only at h0 ⊢
    split at h0
    · omega
    · rw [if_pos (by assumption), if_neg (by assumption)]
theorem cbody_told {B C G R : Nat} {PP : List Pro} {pa : Option Addr} {pc kc : Nat} {gv : Value} {K : Kn} {w : World} (ck : CK B C G R PP pa pc kc gv K w) (b : Int) :
    Calls Tryz.prog 81 #[.pointer (some ⟨C, 0, none⟩), .int .i64 b] w fun r w' => r = .returned (.int .i64 (bodyW PP b K).1) ∧ CK B C G R PP pa pc kc gv (bodyW PP b K).2 w' ∧ Below B w w' := by
  have d0 : w.cell? ⟨C, 0, none⟩ = some (.slice pa PP.length pc) := (cellO ck.c).trans rfl
  have d1 : w.cell? ⟨C, 1, none⟩ = some (.slice (some ⟨G, 0, none⟩) PP.length kc) := (cellO ck.c).trans rfl
  unfold bodyW
  by_cases hno : b < 0 ∨ (PP.length : Int) ≤ b
  · rw [if_pos hno]
    refine (cbody_no 0 b PP.length 0 pa pc w C hno d0).mono ?_
    rintro r w1 ⟨rfl, rfl⟩
    exact ⟨rfl, ck, Below.refl _ _⟩
  · rw [if_neg hno]
    obtain ⟨t, rfl⟩ : ∃ t : Nat, b = t := ⟨b.toNat, by omega⟩
    have ht : t < PP.length := by omega
    have hP : PP[t]? = some PP[t] := List.getElem?_eq_getElem ht
    obtain ⟨pb, po, rfl, hpb, hall⟩ := ck.pl.at hP
    obtain ⟨ca, cc, p0, p1, _, _⟩ := hall t _ hP
    rw [Int.toNat_natCast, List.getD_eq_getElem?_getD, hP]
    refine (cbody_any C G pb po PP.length pc kc t PP[t].args K w ck.k ck.len ht (by have := ck.n; omega) ck.cg (by have := ck.bg; omega) d0 d1 p0).mono ?_
    rintro r w1 ⟨rfl, h1, h2⟩
    refine ⟨rfl, ck.next h2 h1 (by simp) ?_, h2.toBelow ck.bg (Nat.le_of_lt ck.lt)⟩
    intro q s hq
    rw [List.getElem?_set] at hq
    by_cases e : t = q
    · rw [if_pos e] at hq
      rw [if_pos (by rw [ck.len]; exact ht)] at hq
      simp only [Option.some.injEq] at hq
      subst hq
      simp only
      omega
    · rw [if_neg e] at hq
      exact ck.kb q s hq
theorem protosW_next {PP : List Pro} {gl : In → Int} {q : Nat} {K : Kn} (hq : q < PP.length) : protosW PP gl (PP.length - q) q K = if (protoW PP gl q K).1 = 0 then protosW PP gl (PP.length - (q + 1)) (q + 1) (protoW PP gl q K).2 else (protoW PP gl q K).1 := by
  rw [show PP.length - q = (PP.length - (q + 1)) + 1 by omega, protosW]

set_option maxRecDepth 100000 in
set_option maxHeartbeats 3200000 in
theorem wrongProtos_any {gv : Value} {gl : In → Int} (hgv : ∃ fn xa xb, gv = .func fn xa xb) (PP : List Pro) (bs : List Int) (pa ba : Option Addr) (pc bc : Nat) (W0 : World) (hgl : GlOk W0.heap.size W0 gv gl) (hl : PL W0.heap.size W0 pa PP) (hpc : PP.length ≤ pc) (hn : PP.length ≤ 20000) (hbs : NL W0.heap.size W0 ba bs) (hbn : bs.length ≤ 20000) (hbc : bs.length ≤ bc) (htab : TabS W0) :
    Calls Tryz.prog 37 #[.slice pa PP.length pc, .slice ba bs.length bc, gv] W0 fun r w' => r = .returned (.int .i64 (wrongPs PP bs gl)) ∧ Below W0.heap.size W0 w' := by
  obtain ⟨fn, xa, xb, rfl⟩ := hgv
  obtain ⟨rs, hrs⟩ : ∃ r, r = wrongPs PP bs gl := ⟨_, rfl⟩
  rw [← hrs]
  have HRS := hidd hrs
  have HPL := hidd hl
  have HNL := hidd hbs
  have HBS : Hid True := trivial
  obtain ⟨n, hnn⟩ : ∃ n, n = PP.length := ⟨_, rfl⟩
  obtain ⟨m, hmm⟩ : ∃ m, m = bs.length := ⟨_, rfl⟩
  have HPC : Hid (PP.length = n ∧ n ≤ pc ∧ n ≤ 20000) := ⟨hnn.symm, by omega, by omega⟩
  have HM : Hid (bs.length = m) := hmm.symm
  have TB := hidd htab
  rw [← hnn] at hpc hn ⊢
  rw [← hmm] at hbn hbc ⊢
  clear hrs hl hbs hnn hmm htab
  have hmk := fun w => make_known n hn w
  have HMK := hidd hmk
  clear hmk
  have PR : Hid (∀ w, TabS w → Calls Tryz.prog 80 #[] w fun r w' => r = .returned (.slice (some ⟨w.heap.size, 0, none⟩) 13 13) ∧ w' = w.alloc (.cells (primNames.map Value.string).toArray 9)) := fun w h => Prims_any w h
  go_enter Tryz.func37, Tryz.ntmps37
  go_wp2_with fail
  go_loopw [17] (fun i wr => ∃ j : Nat, j ≤ n ∧ i = .int .i64 j ∧ wr = W0 ∧ Hid (sizesW PP = sizesW (PP.drop j))) (fun i _ => n - (intOf i).toNat)
  case atStart => refine ⟨0, Nat.zero_le _, ?_, ?_, ?_⟩ <;> first | rfl | trivial
  case round =>
  obtain ⟨j, hj, rfl, hw, HS⟩ := hrel
  have hw' := hw.symm
  clear hw
  subst hw'
  by_cases hlt : j < n
  · have hjP : j < PP.length := by rw [HPC.out.1]; exact hlt
    have hP : PP[j]? = some PP[j] := List.getElem?_eq_getElem hjP
    obtain ⟨pb, po, rfl, hpb, hall⟩ := HPL.out.at hP
    obtain ⟨ca, cc, p0, p1, _, _⟩ := hall j _ hP
    have WS := hidd (wrongSize_any pb (po + j * 2) PP[j].args ca PP[j].code.length cc W0 p0 p1)
    have HD := hidd (sizesW_drop hP)
    clear hall p0 p1 hP
    generalize sizeW PP[j].args PP[j].code.length = y at WS HD
    go_wp2_with fail
    refine WS.out.mono ?_
    rintro e w1 ⟨rfl, rfl⟩
    by_cases y0 : y = 0
    · subst y0
      go_wp2_with fail
      go_roundw
      case rel => exact ⟨j + 1, by omega, by go_num, by trivial, by unfold Hid; rw [HS.out, HD.out]; simp⟩
      case measure => simp [intOf]; omega
    · have y0' : (y != 0) = true := by simpa using y0
      have hre := HRS.out
      unfold wrongPs at hre
      rw [HS.out, HD.out, if_neg y0, if_pos y0] at hre
      subst hre
      clear HRS HD
      go_wp2_with fail
      go_ret
      exact ⟨rfl, Below.refl _ _⟩
  obtain rfl : j = n := by omega
  have hz0 : sizesW PP = 0 := by rw [HS.out, List.drop_of_length_le (by rw [HPC.out.1]; exact Nat.le_refl _)]; rfl
  have HAR := hidd (sizesW_all hz0)
  have hre := HRS.out
  unfold wrongPs at hre
  rw [hz0, if_neg (by simp)] at hre
  have HRS2 := hidd hre
  clear hre hz0 HRS HS hlt
  go_upto_region 8 with fail
  go_cut [9] from 28 to 34 (fun s9 wx => ∃ C G R, s9 = .pointer (some ⟨C, 0, none⟩) ∧ Hid (CK W0.heap.size C G R PP pa pc j (.func fn xa xb) (List.replicate PP.length none) wx) ∧ Hid (Below W0.heap.size W0 wx))
  case first =>
    have hmk := HMK.out
    refine wp_region_held_drew (S := fun u => Below W0.heap.size W0 u) (by kernel_rfl) (Below.drew (Below.refl _ _)) (fun hS => ?_)
    refine wpAnyH_take (i := 0) (oi := { dst := some 28, op := Op.move (Operand.tmp 0), type := 23, pos := _, after := _, guard := none }) (v := .slice pa j pc) rfl (by kernel_rfl) (by kernel_rfl) (by kernel_rfl) (fun _ _ _ h => h) (Or.inl ⟨by rfl, fun u hu => by go_simp⟩) hS ?_
    simp only [Act.put, List.setIfInBounds_toArray, List.set_cons_zero, List.set_cons_succ]
    refine wpAnyH_take (i := 1) (oi := { dst := some 29, op := Op.move (Operand.tmp 0), type := 23, pos := _, after := _, guard := none }) (v := .slice pa j pc) rfl (by kernel_rfl) (by kernel_rfl) (by kernel_rfl) (fun _ _ _ h => h) (Or.inl ⟨by rfl, fun u hu => by go_simp⟩) hS ?_
    simp only [Act.put, List.setIfInBounds_toArray, List.set_cons_zero, List.set_cons_succ]
    refine wpAnyH_take (i := 2) (oi := { dst := some 30, op := Op.call { callee := Callee.builtin Builtin.len, args := #[Operand.tmp 29], argTypes := #[23] }, type := 3, pos := _, after := _, guard := none }) (v := .int .i64 j) rfl (by kernel_rfl) (by kernel_rfl) (by kernel_rfl) (fun _ _ _ h => h) (Or.inl ⟨by rfl, fun u hu => by go_simp⟩) hS ?_
    simp only [Act.put, List.setIfInBounds_toArray, List.set_cons_zero, List.set_cons_succ]
    refine wpAnyH_take (i := 5) (oi := { dst := some 33, op := Op.move (Operand.tmp 2), type := 122, pos := _, after := _, guard := none }) (v := (.func fn xa xb)) rfl (by kernel_rfl) (by kernel_rfl) (by kernel_rfl) (fun _ _ _ h => h) (Or.inl ⟨by rfl, fun u hu => by go_simp⟩) hS ?_
    simp only [Act.put, List.setIfInBounds_toArray, List.set_cons_zero, List.set_cons_succ]
    refine wpAnyH_ready (rs := [3, 4, 7]) (by kernel_rfl) (by simp) (AllReadyH.cons (o := { dst := some 31, op := Op.makeSlice 183 (Operand.tmp 30) (Operand.tmp 30), type := 183, pos := _, after := _, guard := none }) rfl (fun K hK => ?_) (AllReadyH.cons (o := { dst := some 32, op := Op.call { callee := Callee.value (Operand.func 80), args := #[], argTypes := #[] }, type := 27, pos := _, after := _, guard := none }) rfl (fun K hK => ?_) (AllReadyH.cons (o := { dst := some 9, op := Op.alloc 186, type := 0, pos := _, after := _, guard := none }) rfl (fun K hK => ?_) AllReadyH.nil)))
    · go_simp
      have hb1 : Below W0.drew.heap.size W0.drew (W0.drew.alloc (.cells (flatK (List.replicate j none)).toArray 232)) := (Below.refl _ _).alloc (Nat.le_refl _) _
      have hN1 : (W0.drew.alloc (.cells (flatK (List.replicate j none)).toArray 232)).heap[W0.heap.size]? = some (.cells (flatK (List.replicate j none)).toArray 232 (0, 0)) := World.alloc_heap_new W0.drew _
      have hnb1 : W0.heap.size ≤ W0.heap.size := hS.size
      have hS1 := hS.trans (hb1.mono hS.size)
      change K _ (W0.drew.alloc (.cells (flatK (List.replicate j none)).toArray 232))
      generalize W0.drew.alloc (.cells (flatK (List.replicate j none)).toArray 232) = W1 at hb1 hN1 hS1 ⊢
      have G_1 : Hid (W1.heap[W0.heap.size]? = some (.cells (flatK (List.replicate j none)).toArray 232 (0, 0)) ∧ W0.heap.size ≤ W0.heap.size) := ⟨hN1, hnb1⟩
      clear hb1 hN1 hnb1
      refine hK.out _ _ hS1 (fun hS => ?_)
      clear hK K
      refine wpAnyH_ready (rs := [4, 7]) (by kernel_rfl) (by simp) (AllReadyH.cons (o := { dst := some 32, op := Op.call { callee := Callee.value (Operand.func 80), args := #[], argTypes := #[] }, type := 27, pos := _, after := _, guard := none }) rfl (fun K hK => ?_) (AllReadyH.cons (o := { dst := some 9, op := Op.alloc 186, type := 0, pos := _, after := _, guard := none }) rfl (fun K hK => ?_) AllReadyH.nil))
      · go_simp
        refine (PR.out W1 (TB.out.below hS)).mono ?_
        rintro e wq ⟨rfl, rfl⟩
        have hb2 : Below W1.heap.size W1 (W1.alloc (.cells (primNames.map Value.string).toArray 9)) := (Below.refl _ _).alloc (Nat.le_refl _) _
        have hN2 : (W1.alloc (.cells (primNames.map Value.string).toArray 9)).heap[W1.heap.size]? = some (.cells (primNames.map Value.string).toArray 9 (0, 0)) := World.alloc_heap_new W1 _
        have hnb2 : W0.heap.size ≤ W1.heap.size := hS.size
        have hS2 := hS.trans (hb2.mono hS.size)
        change K _ (W1.alloc (.cells (primNames.map Value.string).toArray 9))
        generalize W1.alloc (.cells (primNames.map Value.string).toArray 9) = W2 at hb2 hN2 hS2 ⊢
        have G_2 : Hid (W2.heap[W0.heap.size]? = some (.cells (flatK (List.replicate j none)).toArray 232 (0, 0)) ∧ W0.heap.size ≤ W0.heap.size) := ⟨(hb2.block _ (Array.getElem?_eq_some_iff.1 G_1.out.1).1).trans G_1.out.1, G_1.out.2⟩
        have R_2 : Hid (W2.heap[W1.heap.size]? = some (.cells (primNames.map Value.string).toArray 9 (0, 0)) ∧ W0.heap.size ≤ W1.heap.size) := ⟨hN2, hnb2⟩
        clear hb2 hN2 hnb2
        refine hK.out _ _ hS2 (fun hS => ?_)
        clear hK K
        refine wpAnyH_take (i := 6) (oi := { dst := some 34, op := Op.build 186 #[(0, Operand.tmp 28), (1, Operand.tmp 31), (2, Operand.tmp 32), (3, Operand.tmp 33)], type := 186, pos := _, after := _, guard := none }) (v := .agg #[.slice pa j pc, .slice (some ⟨W0.heap.size, 0, none⟩) j j, .slice (some ⟨W1.heap.size, 0, none⟩) 13 13, (.func fn xa xb)]) rfl (by kernel_rfl) (by kernel_rfl) (by kernel_rfl) (fun _ _ _ h => h) (Or.inl ⟨by rfl, fun u hu => by go_simp⟩) hS ?_
        simp only [Act.put, List.setIfInBounds_toArray, List.set_cons_zero, List.set_cons_succ]
        refine wpAnyH_ready (rs := [7]) (by kernel_rfl) (by simp) (AllReadyH.cons (o := { dst := some 9, op := Op.alloc 186, type := 0, pos := _, after := _, guard := none }) rfl (fun K hK => ?_) AllReadyH.nil)
        go_simp
        have hb3 : Below W2.heap.size W2 (W2.alloc (.cells (#[.slice none 0 0, .slice none 0 0, .slice none 0 0, .nilFunc] : Array Value) 186)) := (Below.refl _ _).alloc (Nat.le_refl _) _
        have hN3 : (W2.alloc (.cells (#[.slice none 0 0, .slice none 0 0, .slice none 0 0, .nilFunc] : Array Value) 186)).heap[W2.heap.size]? = some (.cells (#[.slice none 0 0, .slice none 0 0, .slice none 0 0, .nilFunc] : Array Value) 186 (0, 0)) := World.alloc_heap_new W2 _
        have hnb3 : W0.heap.size ≤ W2.heap.size := hS.size
        have hS3 := hS.trans (hb3.mono hS.size)
        change K _ (W2.alloc (.cells (#[.slice none 0 0, .slice none 0 0, .slice none 0 0, .nilFunc] : Array Value) 186))
        generalize W2.alloc (.cells (#[.slice none 0 0, .slice none 0 0, .slice none 0 0, .nilFunc] : Array Value) 186) = W3 at hb3 hN3 hS3 ⊢
        have G_3 : Hid (W3.heap[W0.heap.size]? = some (.cells (flatK (List.replicate j none)).toArray 232 (0, 0)) ∧ W0.heap.size ≤ W0.heap.size) := ⟨(hb3.block _ (Array.getElem?_eq_some_iff.1 G_2.out.1).1).trans G_2.out.1, G_2.out.2⟩
        have R_3 : Hid (W3.heap[W1.heap.size]? = some (.cells (primNames.map Value.string).toArray 9 (0, 0)) ∧ W0.heap.size ≤ W1.heap.size) := ⟨(hb3.block _ (Array.getElem?_eq_some_iff.1 R_2.out.1).1).trans R_2.out.1, R_2.out.2⟩
        have C_3 : Hid (W3.heap[W2.heap.size]? = some (.cells (#[.slice none 0 0, .slice none 0 0, .slice none 0 0, .nilFunc] : Array Value) 186 (0, 0)) ∧ W0.heap.size ≤ W2.heap.size) := ⟨hN3, hnb3⟩
        clear hb3 hN3 hnb3
        refine hK.out _ _ hS3 (fun hS => ?_)
        clear hK K
        refine wpAnyH_ready (rs := [8]) (by kernel_rfl) (by simp) (AllReadyH.cons (o := { dst := none, op := Op.store 186 (Operand.tmp 9) (Operand.tmp 34), type := 0, pos := _, after := _, guard := none }) rfl (fun K hK => ?_) AllReadyH.nil)
        have q0 := (cellO (q := 0) C_3.out.1).trans (show (#[.slice none 0 0, .slice none 0 0, .slice none 0 0, .nilFunc] : Array Value)[0]? = some (.slice none 0 0) from rfl)
        have q1 := (cellO (q := 1) C_3.out.1).trans (show (#[.slice none 0 0, .slice none 0 0, .slice none 0 0, .nilFunc] : Array Value)[1]? = some (.slice none 0 0) from rfl)
        have q2 := (cellO (q := 2) C_3.out.1).trans (show (#[.slice none 0 0, .slice none 0 0, .slice none 0 0, .nilFunc] : Array Value)[2]? = some (.slice none 0 0) from rfl)
        have q3 := (cellO (q := 3) C_3.out.1).trans (show (#[.slice none 0 0, .slice none 0 0, .slice none 0 0, .nilFunc] : Array Value)[3]? = some .nilFunc from rfl)
        have z0 := looseO (q := 0) C_3.out.1
        have z1 := looseO (q := 1) C_3.out.1
        have z2 := looseO (q := 2) C_3.out.1
        have z3 := looseO (q := 3) C_3.out.1
        go_simp
        refine hK.out _ _ (below_four hS C_3.out.2 _ _ _ _) (fun hS => ?_)
        clear hK K q0 q1 q2 q3 z0 z1 z2 z3
        refine wpAnyH_done (by kernel_rfl) ?_ _
        go_wp2_with fail
        go_meet
        case rel =>
          exact ⟨_, _, _, rfl, CK.start HPL.out HPC.out HAR.out HBS.out G_3.out R_3.out C_3.out hS, hS⟩
      · go_simp
        have hb2 : Below W1.heap.size W1 (W1.alloc (.cells (#[.slice none 0 0, .slice none 0 0, .slice none 0 0, .nilFunc] : Array Value) 186)) := (Below.refl _ _).alloc (Nat.le_refl _) _
        have hN2 : (W1.alloc (.cells (#[.slice none 0 0, .slice none 0 0, .slice none 0 0, .nilFunc] : Array Value) 186)).heap[W1.heap.size]? = some (.cells (#[.slice none 0 0, .slice none 0 0, .slice none 0 0, .nilFunc] : Array Value) 186 (0, 0)) := World.alloc_heap_new W1 _
        have hnb2 : W0.heap.size ≤ W1.heap.size := hS.size
        have hS2 := hS.trans (hb2.mono hS.size)
        change K _ (W1.alloc (.cells (#[.slice none 0 0, .slice none 0 0, .slice none 0 0, .nilFunc] : Array Value) 186))
        generalize W1.alloc (.cells (#[.slice none 0 0, .slice none 0 0, .slice none 0 0, .nilFunc] : Array Value) 186) = W2 at hb2 hN2 hS2 ⊢
        have G_2 : Hid (W2.heap[W0.heap.size]? = some (.cells (flatK (List.replicate j none)).toArray 232 (0, 0)) ∧ W0.heap.size ≤ W0.heap.size) := ⟨(hb2.block _ (Array.getElem?_eq_some_iff.1 G_1.out.1).1).trans G_1.out.1, G_1.out.2⟩
        have C_2 : Hid (W2.heap[W1.heap.size]? = some (.cells (#[.slice none 0 0, .slice none 0 0, .slice none 0 0, .nilFunc] : Array Value) 186 (0, 0)) ∧ W0.heap.size ≤ W1.heap.size) := ⟨hN2, hnb2⟩
        clear hb2 hN2 hnb2
        refine hK.out _ _ hS2 (fun hS => ?_)
        clear hK K
        refine wpAnyH_ready (rs := [4]) (by kernel_rfl) (by simp) (AllReadyH.cons (o := { dst := some 32, op := Op.call { callee := Callee.value (Operand.func 80), args := #[], argTypes := #[] }, type := 27, pos := _, after := _, guard := none }) rfl (fun K hK => ?_) AllReadyH.nil)
        go_simp
        refine (PR.out W2 (TB.out.below hS)).mono ?_
        rintro e wq ⟨rfl, rfl⟩
        have hb3 : Below W2.heap.size W2 (W2.alloc (.cells (primNames.map Value.string).toArray 9)) := (Below.refl _ _).alloc (Nat.le_refl _) _
        have hN3 : (W2.alloc (.cells (primNames.map Value.string).toArray 9)).heap[W2.heap.size]? = some (.cells (primNames.map Value.string).toArray 9 (0, 0)) := World.alloc_heap_new W2 _
        have hnb3 : W0.heap.size ≤ W2.heap.size := hS.size
        have hS3 := hS.trans (hb3.mono hS.size)
        change K _ (W2.alloc (.cells (primNames.map Value.string).toArray 9))
        generalize W2.alloc (.cells (primNames.map Value.string).toArray 9) = W3 at hb3 hN3 hS3 ⊢
        have G_3 : Hid (W3.heap[W0.heap.size]? = some (.cells (flatK (List.replicate j none)).toArray 232 (0, 0)) ∧ W0.heap.size ≤ W0.heap.size) := ⟨(hb3.block _ (Array.getElem?_eq_some_iff.1 G_2.out.1).1).trans G_2.out.1, G_2.out.2⟩
        have C_3 : Hid (W3.heap[W1.heap.size]? = some (.cells (#[.slice none 0 0, .slice none 0 0, .slice none 0 0, .nilFunc] : Array Value) 186 (0, 0)) ∧ W0.heap.size ≤ W1.heap.size) := ⟨(hb3.block _ (Array.getElem?_eq_some_iff.1 C_2.out.1).1).trans C_2.out.1, C_2.out.2⟩
        have R_3 : Hid (W3.heap[W2.heap.size]? = some (.cells (primNames.map Value.string).toArray 9 (0, 0)) ∧ W0.heap.size ≤ W2.heap.size) := ⟨hN3, hnb3⟩
        clear hb3 hN3 hnb3
        refine hK.out _ _ hS3 (fun hS => ?_)
        clear hK K
        refine wpAnyH_take (i := 6) (oi := { dst := some 34, op := Op.build 186 #[(0, Operand.tmp 28), (1, Operand.tmp 31), (2, Operand.tmp 32), (3, Operand.tmp 33)], type := 186, pos := _, after := _, guard := none }) (v := .agg #[.slice pa j pc, .slice (some ⟨W0.heap.size, 0, none⟩) j j, .slice (some ⟨W2.heap.size, 0, none⟩) 13 13, (.func fn xa xb)]) rfl (by kernel_rfl) (by kernel_rfl) (by kernel_rfl) (fun _ _ _ h => h) (Or.inl ⟨by rfl, fun u hu => by go_simp⟩) hS ?_
        simp only [Act.put, List.setIfInBounds_toArray, List.set_cons_zero, List.set_cons_succ]
        refine wpAnyH_ready (rs := [8]) (by kernel_rfl) (by simp) (AllReadyH.cons (o := { dst := none, op := Op.store 186 (Operand.tmp 9) (Operand.tmp 34), type := 0, pos := _, after := _, guard := none }) rfl (fun K hK => ?_) AllReadyH.nil)
        have q0 := (cellO (q := 0) C_3.out.1).trans (show (#[.slice none 0 0, .slice none 0 0, .slice none 0 0, .nilFunc] : Array Value)[0]? = some (.slice none 0 0) from rfl)
        have q1 := (cellO (q := 1) C_3.out.1).trans (show (#[.slice none 0 0, .slice none 0 0, .slice none 0 0, .nilFunc] : Array Value)[1]? = some (.slice none 0 0) from rfl)
        have q2 := (cellO (q := 2) C_3.out.1).trans (show (#[.slice none 0 0, .slice none 0 0, .slice none 0 0, .nilFunc] : Array Value)[2]? = some (.slice none 0 0) from rfl)
        have q3 := (cellO (q := 3) C_3.out.1).trans (show (#[.slice none 0 0, .slice none 0 0, .slice none 0 0, .nilFunc] : Array Value)[3]? = some .nilFunc from rfl)
        have z0 := looseO (q := 0) C_3.out.1
        have z1 := looseO (q := 1) C_3.out.1
        have z2 := looseO (q := 2) C_3.out.1
        have z3 := looseO (q := 3) C_3.out.1
        go_simp
        refine hK.out _ _ (below_four hS C_3.out.2 _ _ _ _) (fun hS => ?_)
        clear hK K q0 q1 q2 q3 z0 z1 z2 z3
        refine wpAnyH_done (by kernel_rfl) ?_ _
        go_wp2_with fail
        go_meet
        case rel =>
          exact ⟨_, _, _, rfl, CK.start HPL.out HPC.out HAR.out HBS.out G_3.out R_3.out C_3.out hS, hS⟩
    · go_simp
      refine (PR.out W0.drew (TB.out.below hS)).mono ?_
      rintro e wq ⟨rfl, rfl⟩
      have hb1 : Below W0.drew.heap.size W0.drew (W0.drew.alloc (.cells (primNames.map Value.string).toArray 9)) := (Below.refl _ _).alloc (Nat.le_refl _) _
      have hN1 : (W0.drew.alloc (.cells (primNames.map Value.string).toArray 9)).heap[W0.heap.size]? = some (.cells (primNames.map Value.string).toArray 9 (0, 0)) := World.alloc_heap_new W0.drew _
      have hnb1 : W0.heap.size ≤ W0.heap.size := hS.size
      have hS1 := hS.trans (hb1.mono hS.size)
      change K _ (W0.drew.alloc (.cells (primNames.map Value.string).toArray 9))
      generalize W0.drew.alloc (.cells (primNames.map Value.string).toArray 9) = W1 at hb1 hN1 hS1 ⊢
      have R_1 : Hid (W1.heap[W0.heap.size]? = some (.cells (primNames.map Value.string).toArray 9 (0, 0)) ∧ W0.heap.size ≤ W0.heap.size) := ⟨hN1, hnb1⟩
      clear hb1 hN1 hnb1
      refine hK.out _ _ hS1 (fun hS => ?_)
      clear hK K
      refine wpAnyH_ready (rs := [3, 7]) (by kernel_rfl) (by simp) (AllReadyH.cons (o := { dst := some 31, op := Op.makeSlice 183 (Operand.tmp 30) (Operand.tmp 30), type := 183, pos := _, after := _, guard := none }) rfl (fun K hK => ?_) (AllReadyH.cons (o := { dst := some 9, op := Op.alloc 186, type := 0, pos := _, after := _, guard := none }) rfl (fun K hK => ?_) AllReadyH.nil))
      · go_simp
        have hb2 : Below W1.heap.size W1 (W1.alloc (.cells (flatK (List.replicate j none)).toArray 232)) := (Below.refl _ _).alloc (Nat.le_refl _) _
        have hN2 : (W1.alloc (.cells (flatK (List.replicate j none)).toArray 232)).heap[W1.heap.size]? = some (.cells (flatK (List.replicate j none)).toArray 232 (0, 0)) := World.alloc_heap_new W1 _
        have hnb2 : W0.heap.size ≤ W1.heap.size := hS.size
        have hS2 := hS.trans (hb2.mono hS.size)
        change K _ (W1.alloc (.cells (flatK (List.replicate j none)).toArray 232))
        generalize W1.alloc (.cells (flatK (List.replicate j none)).toArray 232) = W2 at hb2 hN2 hS2 ⊢
        have R_2 : Hid (W2.heap[W0.heap.size]? = some (.cells (primNames.map Value.string).toArray 9 (0, 0)) ∧ W0.heap.size ≤ W0.heap.size) := ⟨(hb2.block _ (Array.getElem?_eq_some_iff.1 R_1.out.1).1).trans R_1.out.1, R_1.out.2⟩
        have G_2 : Hid (W2.heap[W1.heap.size]? = some (.cells (flatK (List.replicate j none)).toArray 232 (0, 0)) ∧ W0.heap.size ≤ W1.heap.size) := ⟨hN2, hnb2⟩
        clear hb2 hN2 hnb2
        refine hK.out _ _ hS2 (fun hS => ?_)
        clear hK K
        refine wpAnyH_take (i := 6) (oi := { dst := some 34, op := Op.build 186 #[(0, Operand.tmp 28), (1, Operand.tmp 31), (2, Operand.tmp 32), (3, Operand.tmp 33)], type := 186, pos := _, after := _, guard := none }) (v := .agg #[.slice pa j pc, .slice (some ⟨W1.heap.size, 0, none⟩) j j, .slice (some ⟨W0.heap.size, 0, none⟩) 13 13, (.func fn xa xb)]) rfl (by kernel_rfl) (by kernel_rfl) (by kernel_rfl) (fun _ _ _ h => h) (Or.inl ⟨by rfl, fun u hu => by go_simp⟩) hS ?_
        simp only [Act.put, List.setIfInBounds_toArray, List.set_cons_zero, List.set_cons_succ]
        refine wpAnyH_ready (rs := [7]) (by kernel_rfl) (by simp) (AllReadyH.cons (o := { dst := some 9, op := Op.alloc 186, type := 0, pos := _, after := _, guard := none }) rfl (fun K hK => ?_) AllReadyH.nil)
        go_simp
        have hb3 : Below W2.heap.size W2 (W2.alloc (.cells (#[.slice none 0 0, .slice none 0 0, .slice none 0 0, .nilFunc] : Array Value) 186)) := (Below.refl _ _).alloc (Nat.le_refl _) _
        have hN3 : (W2.alloc (.cells (#[.slice none 0 0, .slice none 0 0, .slice none 0 0, .nilFunc] : Array Value) 186)).heap[W2.heap.size]? = some (.cells (#[.slice none 0 0, .slice none 0 0, .slice none 0 0, .nilFunc] : Array Value) 186 (0, 0)) := World.alloc_heap_new W2 _
        have hnb3 : W0.heap.size ≤ W2.heap.size := hS.size
        have hS3 := hS.trans (hb3.mono hS.size)
        change K _ (W2.alloc (.cells (#[.slice none 0 0, .slice none 0 0, .slice none 0 0, .nilFunc] : Array Value) 186))
        generalize W2.alloc (.cells (#[.slice none 0 0, .slice none 0 0, .slice none 0 0, .nilFunc] : Array Value) 186) = W3 at hb3 hN3 hS3 ⊢
        have R_3 : Hid (W3.heap[W0.heap.size]? = some (.cells (primNames.map Value.string).toArray 9 (0, 0)) ∧ W0.heap.size ≤ W0.heap.size) := ⟨(hb3.block _ (Array.getElem?_eq_some_iff.1 R_2.out.1).1).trans R_2.out.1, R_2.out.2⟩
        have G_3 : Hid (W3.heap[W1.heap.size]? = some (.cells (flatK (List.replicate j none)).toArray 232 (0, 0)) ∧ W0.heap.size ≤ W1.heap.size) := ⟨(hb3.block _ (Array.getElem?_eq_some_iff.1 G_2.out.1).1).trans G_2.out.1, G_2.out.2⟩
        have C_3 : Hid (W3.heap[W2.heap.size]? = some (.cells (#[.slice none 0 0, .slice none 0 0, .slice none 0 0, .nilFunc] : Array Value) 186 (0, 0)) ∧ W0.heap.size ≤ W2.heap.size) := ⟨hN3, hnb3⟩
        clear hb3 hN3 hnb3
        refine hK.out _ _ hS3 (fun hS => ?_)
        clear hK K
        refine wpAnyH_ready (rs := [8]) (by kernel_rfl) (by simp) (AllReadyH.cons (o := { dst := none, op := Op.store 186 (Operand.tmp 9) (Operand.tmp 34), type := 0, pos := _, after := _, guard := none }) rfl (fun K hK => ?_) AllReadyH.nil)
        have q0 := (cellO (q := 0) C_3.out.1).trans (show (#[.slice none 0 0, .slice none 0 0, .slice none 0 0, .nilFunc] : Array Value)[0]? = some (.slice none 0 0) from rfl)
        have q1 := (cellO (q := 1) C_3.out.1).trans (show (#[.slice none 0 0, .slice none 0 0, .slice none 0 0, .nilFunc] : Array Value)[1]? = some (.slice none 0 0) from rfl)
        have q2 := (cellO (q := 2) C_3.out.1).trans (show (#[.slice none 0 0, .slice none 0 0, .slice none 0 0, .nilFunc] : Array Value)[2]? = some (.slice none 0 0) from rfl)
        have q3 := (cellO (q := 3) C_3.out.1).trans (show (#[.slice none 0 0, .slice none 0 0, .slice none 0 0, .nilFunc] : Array Value)[3]? = some .nilFunc from rfl)
        have z0 := looseO (q := 0) C_3.out.1
        have z1 := looseO (q := 1) C_3.out.1
        have z2 := looseO (q := 2) C_3.out.1
        have z3 := looseO (q := 3) C_3.out.1
        go_simp
        refine hK.out _ _ (below_four hS C_3.out.2 _ _ _ _) (fun hS => ?_)
        clear hK K q0 q1 q2 q3 z0 z1 z2 z3
        refine wpAnyH_done (by kernel_rfl) ?_ _
        go_wp2_with fail
        go_meet
        case rel =>
          exact ⟨_, _, _, rfl, CK.start HPL.out HPC.out HAR.out HBS.out G_3.out R_3.out C_3.out hS, hS⟩
      · go_simp
        have hb2 : Below W1.heap.size W1 (W1.alloc (.cells (#[.slice none 0 0, .slice none 0 0, .slice none 0 0, .nilFunc] : Array Value) 186)) := (Below.refl _ _).alloc (Nat.le_refl _) _
        have hN2 : (W1.alloc (.cells (#[.slice none 0 0, .slice none 0 0, .slice none 0 0, .nilFunc] : Array Value) 186)).heap[W1.heap.size]? = some (.cells (#[.slice none 0 0, .slice none 0 0, .slice none 0 0, .nilFunc] : Array Value) 186 (0, 0)) := World.alloc_heap_new W1 _
        have hnb2 : W0.heap.size ≤ W1.heap.size := hS.size
        have hS2 := hS.trans (hb2.mono hS.size)
        change K _ (W1.alloc (.cells (#[.slice none 0 0, .slice none 0 0, .slice none 0 0, .nilFunc] : Array Value) 186))
        generalize W1.alloc (.cells (#[.slice none 0 0, .slice none 0 0, .slice none 0 0, .nilFunc] : Array Value) 186) = W2 at hb2 hN2 hS2 ⊢
        have R_2 : Hid (W2.heap[W0.heap.size]? = some (.cells (primNames.map Value.string).toArray 9 (0, 0)) ∧ W0.heap.size ≤ W0.heap.size) := ⟨(hb2.block _ (Array.getElem?_eq_some_iff.1 R_1.out.1).1).trans R_1.out.1, R_1.out.2⟩
        have C_2 : Hid (W2.heap[W1.heap.size]? = some (.cells (#[.slice none 0 0, .slice none 0 0, .slice none 0 0, .nilFunc] : Array Value) 186 (0, 0)) ∧ W0.heap.size ≤ W1.heap.size) := ⟨hN2, hnb2⟩
        clear hb2 hN2 hnb2
        refine hK.out _ _ hS2 (fun hS => ?_)
        clear hK K
        refine wpAnyH_ready (rs := [3]) (by kernel_rfl) (by simp) (AllReadyH.cons (o := { dst := some 31, op := Op.makeSlice 183 (Operand.tmp 30) (Operand.tmp 30), type := 183, pos := _, after := _, guard := none }) rfl (fun K hK => ?_) AllReadyH.nil)
        go_simp
        have hb3 : Below W2.heap.size W2 (W2.alloc (.cells (flatK (List.replicate j none)).toArray 232)) := (Below.refl _ _).alloc (Nat.le_refl _) _
        have hN3 : (W2.alloc (.cells (flatK (List.replicate j none)).toArray 232)).heap[W2.heap.size]? = some (.cells (flatK (List.replicate j none)).toArray 232 (0, 0)) := World.alloc_heap_new W2 _
        have hnb3 : W0.heap.size ≤ W2.heap.size := hS.size
        have hS3 := hS.trans (hb3.mono hS.size)
        change K _ (W2.alloc (.cells (flatK (List.replicate j none)).toArray 232))
        generalize W2.alloc (.cells (flatK (List.replicate j none)).toArray 232) = W3 at hb3 hN3 hS3 ⊢
        have R_3 : Hid (W3.heap[W0.heap.size]? = some (.cells (primNames.map Value.string).toArray 9 (0, 0)) ∧ W0.heap.size ≤ W0.heap.size) := ⟨(hb3.block _ (Array.getElem?_eq_some_iff.1 R_2.out.1).1).trans R_2.out.1, R_2.out.2⟩
        have C_3 : Hid (W3.heap[W1.heap.size]? = some (.cells (#[.slice none 0 0, .slice none 0 0, .slice none 0 0, .nilFunc] : Array Value) 186 (0, 0)) ∧ W0.heap.size ≤ W1.heap.size) := ⟨(hb3.block _ (Array.getElem?_eq_some_iff.1 C_2.out.1).1).trans C_2.out.1, C_2.out.2⟩
        have G_3 : Hid (W3.heap[W2.heap.size]? = some (.cells (flatK (List.replicate j none)).toArray 232 (0, 0)) ∧ W0.heap.size ≤ W2.heap.size) := ⟨hN3, hnb3⟩
        clear hb3 hN3 hnb3
        refine hK.out _ _ hS3 (fun hS => ?_)
        clear hK K
        refine wpAnyH_take (i := 6) (oi := { dst := some 34, op := Op.build 186 #[(0, Operand.tmp 28), (1, Operand.tmp 31), (2, Operand.tmp 32), (3, Operand.tmp 33)], type := 186, pos := _, after := _, guard := none }) (v := .agg #[.slice pa j pc, .slice (some ⟨W2.heap.size, 0, none⟩) j j, .slice (some ⟨W0.heap.size, 0, none⟩) 13 13, (.func fn xa xb)]) rfl (by kernel_rfl) (by kernel_rfl) (by kernel_rfl) (fun _ _ _ h => h) (Or.inl ⟨by rfl, fun u hu => by go_simp⟩) hS ?_
        simp only [Act.put, List.setIfInBounds_toArray, List.set_cons_zero, List.set_cons_succ]
        refine wpAnyH_ready (rs := [8]) (by kernel_rfl) (by simp) (AllReadyH.cons (o := { dst := none, op := Op.store 186 (Operand.tmp 9) (Operand.tmp 34), type := 0, pos := _, after := _, guard := none }) rfl (fun K hK => ?_) AllReadyH.nil)
        have q0 := (cellO (q := 0) C_3.out.1).trans (show (#[.slice none 0 0, .slice none 0 0, .slice none 0 0, .nilFunc] : Array Value)[0]? = some (.slice none 0 0) from rfl)
        have q1 := (cellO (q := 1) C_3.out.1).trans (show (#[.slice none 0 0, .slice none 0 0, .slice none 0 0, .nilFunc] : Array Value)[1]? = some (.slice none 0 0) from rfl)
        have q2 := (cellO (q := 2) C_3.out.1).trans (show (#[.slice none 0 0, .slice none 0 0, .slice none 0 0, .nilFunc] : Array Value)[2]? = some (.slice none 0 0) from rfl)
        have q3 := (cellO (q := 3) C_3.out.1).trans (show (#[.slice none 0 0, .slice none 0 0, .slice none 0 0, .nilFunc] : Array Value)[3]? = some .nilFunc from rfl)
        have z0 := looseO (q := 0) C_3.out.1
        have z1 := looseO (q := 1) C_3.out.1
        have z2 := looseO (q := 2) C_3.out.1
        have z3 := looseO (q := 3) C_3.out.1
        go_simp
        refine hK.out _ _ (below_four hS C_3.out.2 _ _ _ _) (fun hS => ?_)
        clear hK K q0 q1 q2 q3 z0 z1 z2 z3
        refine wpAnyH_done (by kernel_rfl) ?_ _
        go_wp2_with fail
        go_meet
        case rel =>
          exact ⟨_, _, _, rfl, CK.start HPL.out HPC.out HAR.out HBS.out G_3.out R_3.out C_3.out hS, hS⟩
    · go_simp
      have hb1 : Below W0.drew.heap.size W0.drew (W0.drew.alloc (.cells (#[.slice none 0 0, .slice none 0 0, .slice none 0 0, .nilFunc] : Array Value) 186)) := (Below.refl _ _).alloc (Nat.le_refl _) _
      have hN1 : (W0.drew.alloc (.cells (#[.slice none 0 0, .slice none 0 0, .slice none 0 0, .nilFunc] : Array Value) 186)).heap[W0.heap.size]? = some (.cells (#[.slice none 0 0, .slice none 0 0, .slice none 0 0, .nilFunc] : Array Value) 186 (0, 0)) := World.alloc_heap_new W0.drew _
      have hnb1 : W0.heap.size ≤ W0.heap.size := hS.size
      have hS1 := hS.trans (hb1.mono hS.size)
      change K _ (W0.drew.alloc (.cells (#[.slice none 0 0, .slice none 0 0, .slice none 0 0, .nilFunc] : Array Value) 186))
      generalize W0.drew.alloc (.cells (#[.slice none 0 0, .slice none 0 0, .slice none 0 0, .nilFunc] : Array Value) 186) = W1 at hb1 hN1 hS1 ⊢
      have C_1 : Hid (W1.heap[W0.heap.size]? = some (.cells (#[.slice none 0 0, .slice none 0 0, .slice none 0 0, .nilFunc] : Array Value) 186 (0, 0)) ∧ W0.heap.size ≤ W0.heap.size) := ⟨hN1, hnb1⟩
      clear hb1 hN1 hnb1
      refine hK.out _ _ hS1 (fun hS => ?_)
      clear hK K
      refine wpAnyH_ready (rs := [3, 4]) (by kernel_rfl) (by simp) (AllReadyH.cons (o := { dst := some 31, op := Op.makeSlice 183 (Operand.tmp 30) (Operand.tmp 30), type := 183, pos := _, after := _, guard := none }) rfl (fun K hK => ?_) (AllReadyH.cons (o := { dst := some 32, op := Op.call { callee := Callee.value (Operand.func 80), args := #[], argTypes := #[] }, type := 27, pos := _, after := _, guard := none }) rfl (fun K hK => ?_) AllReadyH.nil))
      · go_simp
        have hb2 : Below W1.heap.size W1 (W1.alloc (.cells (flatK (List.replicate j none)).toArray 232)) := (Below.refl _ _).alloc (Nat.le_refl _) _
        have hN2 : (W1.alloc (.cells (flatK (List.replicate j none)).toArray 232)).heap[W1.heap.size]? = some (.cells (flatK (List.replicate j none)).toArray 232 (0, 0)) := World.alloc_heap_new W1 _
        have hnb2 : W0.heap.size ≤ W1.heap.size := hS.size
        have hS2 := hS.trans (hb2.mono hS.size)
        change K _ (W1.alloc (.cells (flatK (List.replicate j none)).toArray 232))
        generalize W1.alloc (.cells (flatK (List.replicate j none)).toArray 232) = W2 at hb2 hN2 hS2 ⊢
        have C_2 : Hid (W2.heap[W0.heap.size]? = some (.cells (#[.slice none 0 0, .slice none 0 0, .slice none 0 0, .nilFunc] : Array Value) 186 (0, 0)) ∧ W0.heap.size ≤ W0.heap.size) := ⟨(hb2.block _ (Array.getElem?_eq_some_iff.1 C_1.out.1).1).trans C_1.out.1, C_1.out.2⟩
        have G_2 : Hid (W2.heap[W1.heap.size]? = some (.cells (flatK (List.replicate j none)).toArray 232 (0, 0)) ∧ W0.heap.size ≤ W1.heap.size) := ⟨hN2, hnb2⟩
        clear hb2 hN2 hnb2
        refine hK.out _ _ hS2 (fun hS => ?_)
        clear hK K
        refine wpAnyH_ready (rs := [4]) (by kernel_rfl) (by simp) (AllReadyH.cons (o := { dst := some 32, op := Op.call { callee := Callee.value (Operand.func 80), args := #[], argTypes := #[] }, type := 27, pos := _, after := _, guard := none }) rfl (fun K hK => ?_) AllReadyH.nil)
        go_simp
        refine (PR.out W2 (TB.out.below hS)).mono ?_
        rintro e wq ⟨rfl, rfl⟩
        have hb3 : Below W2.heap.size W2 (W2.alloc (.cells (primNames.map Value.string).toArray 9)) := (Below.refl _ _).alloc (Nat.le_refl _) _
        have hN3 : (W2.alloc (.cells (primNames.map Value.string).toArray 9)).heap[W2.heap.size]? = some (.cells (primNames.map Value.string).toArray 9 (0, 0)) := World.alloc_heap_new W2 _
        have hnb3 : W0.heap.size ≤ W2.heap.size := hS.size
        have hS3 := hS.trans (hb3.mono hS.size)
        change K _ (W2.alloc (.cells (primNames.map Value.string).toArray 9))
        generalize W2.alloc (.cells (primNames.map Value.string).toArray 9) = W3 at hb3 hN3 hS3 ⊢
        have C_3 : Hid (W3.heap[W0.heap.size]? = some (.cells (#[.slice none 0 0, .slice none 0 0, .slice none 0 0, .nilFunc] : Array Value) 186 (0, 0)) ∧ W0.heap.size ≤ W0.heap.size) := ⟨(hb3.block _ (Array.getElem?_eq_some_iff.1 C_2.out.1).1).trans C_2.out.1, C_2.out.2⟩
        have G_3 : Hid (W3.heap[W1.heap.size]? = some (.cells (flatK (List.replicate j none)).toArray 232 (0, 0)) ∧ W0.heap.size ≤ W1.heap.size) := ⟨(hb3.block _ (Array.getElem?_eq_some_iff.1 G_2.out.1).1).trans G_2.out.1, G_2.out.2⟩
        have R_3 : Hid (W3.heap[W2.heap.size]? = some (.cells (primNames.map Value.string).toArray 9 (0, 0)) ∧ W0.heap.size ≤ W2.heap.size) := ⟨hN3, hnb3⟩
        clear hb3 hN3 hnb3
        refine hK.out _ _ hS3 (fun hS => ?_)
        clear hK K
        refine wpAnyH_take (i := 6) (oi := { dst := some 34, op := Op.build 186 #[(0, Operand.tmp 28), (1, Operand.tmp 31), (2, Operand.tmp 32), (3, Operand.tmp 33)], type := 186, pos := _, after := _, guard := none }) (v := .agg #[.slice pa j pc, .slice (some ⟨W1.heap.size, 0, none⟩) j j, .slice (some ⟨W2.heap.size, 0, none⟩) 13 13, (.func fn xa xb)]) rfl (by kernel_rfl) (by kernel_rfl) (by kernel_rfl) (fun _ _ _ h => h) (Or.inl ⟨by rfl, fun u hu => by go_simp⟩) hS ?_
        simp only [Act.put, List.setIfInBounds_toArray, List.set_cons_zero, List.set_cons_succ]
        refine wpAnyH_ready (rs := [8]) (by kernel_rfl) (by simp) (AllReadyH.cons (o := { dst := none, op := Op.store 186 (Operand.tmp 9) (Operand.tmp 34), type := 0, pos := _, after := _, guard := none }) rfl (fun K hK => ?_) AllReadyH.nil)
        have q0 := (cellO (q := 0) C_3.out.1).trans (show (#[.slice none 0 0, .slice none 0 0, .slice none 0 0, .nilFunc] : Array Value)[0]? = some (.slice none 0 0) from rfl)
        have q1 := (cellO (q := 1) C_3.out.1).trans (show (#[.slice none 0 0, .slice none 0 0, .slice none 0 0, .nilFunc] : Array Value)[1]? = some (.slice none 0 0) from rfl)
        have q2 := (cellO (q := 2) C_3.out.1).trans (show (#[.slice none 0 0, .slice none 0 0, .slice none 0 0, .nilFunc] : Array Value)[2]? = some (.slice none 0 0) from rfl)
        have q3 := (cellO (q := 3) C_3.out.1).trans (show (#[.slice none 0 0, .slice none 0 0, .slice none 0 0, .nilFunc] : Array Value)[3]? = some .nilFunc from rfl)
        have z0 := looseO (q := 0) C_3.out.1
        have z1 := looseO (q := 1) C_3.out.1
        have z2 := looseO (q := 2) C_3.out.1
        have z3 := looseO (q := 3) C_3.out.1
        go_simp
        refine hK.out _ _ (below_four hS C_3.out.2 _ _ _ _) (fun hS => ?_)
        clear hK K q0 q1 q2 q3 z0 z1 z2 z3
        refine wpAnyH_done (by kernel_rfl) ?_ _
        go_wp2_with fail
        go_meet
        case rel =>
          exact ⟨_, _, _, rfl, CK.start HPL.out HPC.out HAR.out HBS.out G_3.out R_3.out C_3.out hS, hS⟩
      · go_simp
        refine (PR.out W1 (TB.out.below hS)).mono ?_
        rintro e wq ⟨rfl, rfl⟩
        have hb2 : Below W1.heap.size W1 (W1.alloc (.cells (primNames.map Value.string).toArray 9)) := (Below.refl _ _).alloc (Nat.le_refl _) _
        have hN2 : (W1.alloc (.cells (primNames.map Value.string).toArray 9)).heap[W1.heap.size]? = some (.cells (primNames.map Value.string).toArray 9 (0, 0)) := World.alloc_heap_new W1 _
        have hnb2 : W0.heap.size ≤ W1.heap.size := hS.size
        have hS2 := hS.trans (hb2.mono hS.size)
        change K _ (W1.alloc (.cells (primNames.map Value.string).toArray 9))
        generalize W1.alloc (.cells (primNames.map Value.string).toArray 9) = W2 at hb2 hN2 hS2 ⊢
        have C_2 : Hid (W2.heap[W0.heap.size]? = some (.cells (#[.slice none 0 0, .slice none 0 0, .slice none 0 0, .nilFunc] : Array Value) 186 (0, 0)) ∧ W0.heap.size ≤ W0.heap.size) := ⟨(hb2.block _ (Array.getElem?_eq_some_iff.1 C_1.out.1).1).trans C_1.out.1, C_1.out.2⟩
        have R_2 : Hid (W2.heap[W1.heap.size]? = some (.cells (primNames.map Value.string).toArray 9 (0, 0)) ∧ W0.heap.size ≤ W1.heap.size) := ⟨hN2, hnb2⟩
        clear hb2 hN2 hnb2
        refine hK.out _ _ hS2 (fun hS => ?_)
        clear hK K
        refine wpAnyH_ready (rs := [3]) (by kernel_rfl) (by simp) (AllReadyH.cons (o := { dst := some 31, op := Op.makeSlice 183 (Operand.tmp 30) (Operand.tmp 30), type := 183, pos := _, after := _, guard := none }) rfl (fun K hK => ?_) AllReadyH.nil)
        go_simp
        have hb3 : Below W2.heap.size W2 (W2.alloc (.cells (flatK (List.replicate j none)).toArray 232)) := (Below.refl _ _).alloc (Nat.le_refl _) _
        have hN3 : (W2.alloc (.cells (flatK (List.replicate j none)).toArray 232)).heap[W2.heap.size]? = some (.cells (flatK (List.replicate j none)).toArray 232 (0, 0)) := World.alloc_heap_new W2 _
        have hnb3 : W0.heap.size ≤ W2.heap.size := hS.size
        have hS3 := hS.trans (hb3.mono hS.size)
        change K _ (W2.alloc (.cells (flatK (List.replicate j none)).toArray 232))
        generalize W2.alloc (.cells (flatK (List.replicate j none)).toArray 232) = W3 at hb3 hN3 hS3 ⊢
        have C_3 : Hid (W3.heap[W0.heap.size]? = some (.cells (#[.slice none 0 0, .slice none 0 0, .slice none 0 0, .nilFunc] : Array Value) 186 (0, 0)) ∧ W0.heap.size ≤ W0.heap.size) := ⟨(hb3.block _ (Array.getElem?_eq_some_iff.1 C_2.out.1).1).trans C_2.out.1, C_2.out.2⟩
        have R_3 : Hid (W3.heap[W1.heap.size]? = some (.cells (primNames.map Value.string).toArray 9 (0, 0)) ∧ W0.heap.size ≤ W1.heap.size) := ⟨(hb3.block _ (Array.getElem?_eq_some_iff.1 R_2.out.1).1).trans R_2.out.1, R_2.out.2⟩
        have G_3 : Hid (W3.heap[W2.heap.size]? = some (.cells (flatK (List.replicate j none)).toArray 232 (0, 0)) ∧ W0.heap.size ≤ W2.heap.size) := ⟨hN3, hnb3⟩
        clear hb3 hN3 hnb3
        refine hK.out _ _ hS3 (fun hS => ?_)
        clear hK K
        refine wpAnyH_take (i := 6) (oi := { dst := some 34, op := Op.build 186 #[(0, Operand.tmp 28), (1, Operand.tmp 31), (2, Operand.tmp 32), (3, Operand.tmp 33)], type := 186, pos := _, after := _, guard := none }) (v := .agg #[.slice pa j pc, .slice (some ⟨W2.heap.size, 0, none⟩) j j, .slice (some ⟨W1.heap.size, 0, none⟩) 13 13, (.func fn xa xb)]) rfl (by kernel_rfl) (by kernel_rfl) (by kernel_rfl) (fun _ _ _ h => h) (Or.inl ⟨by rfl, fun u hu => by go_simp⟩) hS ?_
        simp only [Act.put, List.setIfInBounds_toArray, List.set_cons_zero, List.set_cons_succ]
        refine wpAnyH_ready (rs := [8]) (by kernel_rfl) (by simp) (AllReadyH.cons (o := { dst := none, op := Op.store 186 (Operand.tmp 9) (Operand.tmp 34), type := 0, pos := _, after := _, guard := none }) rfl (fun K hK => ?_) AllReadyH.nil)
        have q0 := (cellO (q := 0) C_3.out.1).trans (show (#[.slice none 0 0, .slice none 0 0, .slice none 0 0, .nilFunc] : Array Value)[0]? = some (.slice none 0 0) from rfl)
        have q1 := (cellO (q := 1) C_3.out.1).trans (show (#[.slice none 0 0, .slice none 0 0, .slice none 0 0, .nilFunc] : Array Value)[1]? = some (.slice none 0 0) from rfl)
        have q2 := (cellO (q := 2) C_3.out.1).trans (show (#[.slice none 0 0, .slice none 0 0, .slice none 0 0, .nilFunc] : Array Value)[2]? = some (.slice none 0 0) from rfl)
        have q3 := (cellO (q := 3) C_3.out.1).trans (show (#[.slice none 0 0, .slice none 0 0, .slice none 0 0, .nilFunc] : Array Value)[3]? = some .nilFunc from rfl)
        have z0 := looseO (q := 0) C_3.out.1
        have z1 := looseO (q := 1) C_3.out.1
        have z2 := looseO (q := 2) C_3.out.1
        have z3 := looseO (q := 3) C_3.out.1
        go_simp
        refine hK.out _ _ (below_four hS C_3.out.2 _ _ _ _) (fun hS => ?_)
        clear hK K q0 q1 q2 q3 z0 z1 z2 z3
        refine wpAnyH_done (by kernel_rfl) ?_ _
        go_wp2_with fail
        go_meet
        case rel =>
          exact ⟨_, _, _, rfl, CK.start HPL.out HPC.out HAR.out HBS.out G_3.out R_3.out C_3.out hS, hS⟩
  case rest =>
    obtain ⟨C, G, R, rfl, HC, HB⟩ := hcut
    clear HMK PR
    go_wp2_with fail
    go_loopw [37] (fun i wx2 => ∃ (k : Nat) (K : Kn), k ≤ m ∧ i = .int .i64 k ∧ Hid (CK W0.heap.size C G R PP pa pc j (.func fn xa xb) K wx2 ∧ Below W0.heap.size W0 wx2 ∧ bodiesW PP bs (List.replicate PP.length none) = bodiesW PP (bs.drop k) K)) (fun i _ => m - (intOf i).toNat)
    case atStart => exact ⟨0, _, Nat.zero_le _, rfl, HC.out, HB.out, rfl⟩
    case round =>
    obtain ⟨k, K, hk, rfl, HR⟩ := hrel
    by_cases hlt : k < m
    · have hkb : k < bs.length := by rw [HM.out]; exact hlt
      have hb : bs[k]? = some bs[k] := List.getElem?_eq_getElem hkb
      obtain ⟨bb, bo, rfl, hbb, hball⟩ : ∃ b o, ba = some ⟨b, o, none⟩ ∧ b < W0.heap.size ∧ ∀ i v, bs[i]? = some v → W0.cell? ⟨b, o + i, none⟩ = some (.int .i64 v) := by
        rcases HNL.out with h | h
        · rw [h] at hkb; simp at hkb
        · exact h
      have b0 := (HR.out.2.1.cell (p := ⟨bb, bo + k, none⟩) hbb).trans (hball k _ hb)
      have BT := hidd (cbody_told HR.out.1 bs[k])
      have HD := hidd (bodiesW_drop (PP := PP) (K := K) hb)
      have HX := hidd (bodiesW_bad (PP := PP) (K := K) hb)
      clear hball hb
      generalize bodyW PP bs[k] K = y at BT HD HX
      obtain ⟨y1, y2⟩ := y
      simp only at BT HD HX
      generalize bs[k] = bv at b0 BT
      go_wp2_with fail
      refine BT.out.mono ?_
      rintro e w1 ⟨rfl, h1, h2⟩
      have HC1 := hidd h1
      have HB1 := hidd (HR.out.2.1.trans h2)
      clear h1 h2 BT b0
      by_cases y0 : y1 = 0
      · subst y0
        go_wp2_with fail
        go_roundw
        case rel => exact ⟨k + 1, y2, by omega, by go_num, HC1.out, HB1.out, HR.out.2.2.trans (by first | exact HD.out rfl | exact HD.out trivial)⟩
        case measure => simp [intOf]; omega
      · have y0' : (y1 != 0) = true := by simpa using y0
        have hre := HRS2.out
        rw [HR.out.2.2, HX.out y0, if_pos y0] at hre
        subst hre
        clear HRS2 HX HD
        go_wp2_with fail
        go_ret
        exact ⟨rfl, HB1.out⟩
    · obtain rfl : k = m := by omega
      have hbo : bodiesW PP bs (List.replicate PP.length none) = (0, K) := by rw [HR.out.2.2, List.drop_of_length_le (by rw [HM.out]; exact Nat.le_refl _)]; rfl
      have hre := HRS2.out
      rw [hbo, if_neg (by simp)] at hre
      have HRS3 := hidd hre
      have HC2 := hidd HR.out.1
      have HB2 := hidd HR.out.2.1
      clear hre HRS2 hbo HR
      go_wp2_with fail
      rename_i wx3
      go_loopw [49] (fun i wx2 => ∃ (q : Nat) (K' : Kn), q ≤ j ∧ i = .int .i64 q ∧ Hid (CK W0.heap.size C G R PP pa pc j (.func fn xa xb) K' wx2 ∧ Below W0.heap.size W0 wx2 ∧ rs = protosW PP gl (PP.length - q) q K')) (fun i _ => j - (intOf i).toNat)
      case atStart => exact ⟨0, K, Nat.zero_le _, rfl, HC2.out, HB2.out, HRS3.out⟩
      case round =>
      obtain ⟨q, K', hq, rfl, HR⟩ := hrel
      by_cases hlt2 : q < j
      · have hqP : q < PP.length := by rw [HPC.out.1]; exact hlt2
        have hP : PP[q]? = some PP[q] := List.getElem?_eq_getElem hqP
        have PA := hidd (proto_any hgl HR.out.2.1 HR.out.1 hP)
        have HD := hidd (protosW_next (gl := gl) (K := K') hqP)
        clear hP
        generalize protoW PP gl q K' = y at PA HD
        obtain ⟨y1, y2⟩ := y
        simp only at PA HD
        go_wp2_with fail
        refine PA.out.mono ?_
        rintro e w1 ⟨rfl, h1, h2⟩
        have HC1 := hidd h1
        have HB1 := hidd (HR.out.2.1.trans h2)
        clear h1 h2 PA
        by_cases y0 : y1 = 0
        · subst y0
          go_wp2_with fail
          go_roundw
          case rel => exact ⟨q + 1, y2, by omega, by go_num, HC1.out, HB1.out, by rw [HR.out.2.2, HD.out]; simp⟩
          case measure => simp [intOf]; omega
        · have y0' : (y1 != 0) = true := by simpa using y0
          have hre := HR.out.2.2
          rw [HD.out, if_neg y0] at hre
          subst hre
          clear HD HRS3
          go_wp2_with fail
          go_ret
          exact ⟨rfl, HB1.out⟩
      · obtain rfl : q = j := by omega
        have hre := HR.out.2.2
        rw [show PP.length - q = 0 by rw [HPC.out.1]; omega, protosW] at hre
        subst hre
        clear HRS3
        go_wp2_with fail
        go_ret
        exact ⟨rfl, HR.out.2.1⟩
end Go.Proofs.YthikdpclifeonaaGreatDoor
