/- Chapter 8's laws: CodeJoined, walked. -/
import Derived.Test.YtbbmdhkbndgdkaaFb
namespace Go.Proofs.Ytbbmdhkbndgdkaa
set_option linter.unusedVariables false
set_option linter.unusedSimpArgs false
open Go.RowKit

theorem infoCore : (Try.prog.info? 40).map (fun i => (i.zero, i.size, i.bytes)) = some (some (.agg #[.int .i64 0, .int .i64 0, .int .i64 0, .string ⟨#[]⟩, .string ⟨#[]⟩, .int .i64 0, .int .i64 0, .string ⟨#[]⟩, .int .i64 0, .int .i64 0, .slice none 0 0, .slice none 0 0]), 12, 152) := by kernel_rfl
theorem nmL_append : ∀ (a b : List Cor), nmL a → nmL b → nmL (a ++ b)
  | [], b, _, h => h
  | c :: r, b, ha, hb => by
    rw [nmL] at ha
    rw [List.cons_append, nmL]
    exact ⟨ha.1, nmL_append r b ha.2 hb⟩
theorem own_fresh (v : World) (e : TypeId) (size : Nat) : (v.alloc (.cells #[] e)).ownsRow v.heap.size e size (.slice (some ⟨v.heap.size, 0, none⟩) 0 0) 0 [] :=
  ⟨by simp, Or.inr ⟨v.heap.size, 0, #[], rfl, Nat.le_refl _, World.alloc_heap_new v _, Nat.le_refl _, Nat.zero_le _, by simp, by simp⟩⟩
theorem onI_else {n k : Nat} {x : In} (h9 : x.op ≠ 9) (h10 : x.op ≠ 10) (h7 : x.op ≠ 7) : onI n k x = x := by
  unfold onI
  rw [if_neg (by rintro (h | h) <;> contradiction), if_neg h7]
theorem onI_jump {n k : Nat} {x : In} (h : x.op = 9 ∨ x.op = 10) : onI n k x = { x with a := x.a + n } := by
  unfold onI
  rw [if_pos h]
theorem onI_clos {n k : Nat} {x : In} (h : x.op = 7) : onI n k x = { x with a := x.a + k } := by
  unfold onI
  rw [if_neg (by rw [h]; decide), if_pos h]
theorem flatI_take {l : List IE} {n j : Nat} {u : Value} (h : (flatI (l.take n))[j]? = some u) : (flatI l)[j]? = some u := by
  have e : flatI l = flatI (l.take n) ++ flatI (l.drop n) := by rw [← flatI_append, List.take_append_drop]
  rw [e, List.getElem?_append_left (List.getElem?_eq_some_iff.1 h).1]
  exact h
theorem alloc2_cells (w : World) (o : Obj) (cs : Array Value) (t : TypeId) (xs : List Value) (h : xs = cs.toList) (j : Nat) (u : Value) (hu : xs[j]? = some u) : ((w.alloc o).alloc (.cells cs t)).cell? ⟨w.heap.size + 1, 0 + j, none⟩ = some u := by
  have := World.cell?_alloc_mark (w.alloc o) cs t (0, 0) j
  rw [Nat.zero_add, show w.heap.size + 1 = (w.alloc o).heap.size by simp]
  refine this.trans ?_
  subst h
  rw [← hu]
  simp
theorem onI0_else {k : Nat} {x : In} (h7 : x.op ≠ 7) : onI 0 k x = x := by
  by_cases h : x.op = 9 ∨ x.op = 10
  · rw [onI_jump h]; simp
  · exact onI_else (fun e => h (Or.inl e)) (fun e => h (Or.inr e)) h7
/-- A procedure in a box, its code a row of one's own. -/
structure AQ (Q B : Nat) (ar : Int) (v : Value) (es : List IE) (w : World) : Prop where
  box : w.heap[Q]? = some (.cells #[.int .i64 ar, v] 44 (0, 0))
  row : w.ownsRow Q 46 11 v es.length (flatI es)
  sep : v.ownBlock ≠ some Q
  ok : ∀ e ∈ es, e.Ok (fun b => b < B) w
theorem AQ.lt {Q B : Nat} {ar : Int} {v : Value} {es : List IE} {w : World} (h : AQ Q B ar v es w) : Q < w.heap.size := (Array.getElem?_eq_some_iff.1 h.box).1
theorem AQ.below {Q B : Nat} {ar : Int} {v : Value} {es : List IE} {w w' : World} (h : AQ Q B ar v es w) (hb : Below w.heap.size w w') (hB : B ≤ Q) : AQ Q B ar v es w' :=
  ⟨(hb.block _ h.lt).trans h.box, own_below h.row hb, h.sep, fun e he => (h.ok e he).stay (fun k hk => hb.block k (by have := h.lt; omega)) (fun _ hk => hk)⟩
theorem AQ.push {Q B : Nat} {ar : Int} {v v' : Value} {es : List IE} {w w2 w4 : World} (h : AQ Q B ar v es w) (h2 : Below w.heap.size w w2) (hB : B ≤ Q) (e : IE) (he : e.Ok (fun b => b < B) w)
    (hown : w4.ownsRow Q 46 11 v' (es.length + 1) (flatI es ++ e.cells)) (hg : w2.grownBy w4 v.ownBlock) (hw : v'.ownBlock = v.ownBlock ∨ v'.ownBlock = some w2.heap.size) :
    AQ Q B ar v' (es ++ [e]) (w4.setCell ⟨Q, 1, none⟩ v') ∧ Below Q w (w4.setCell ⟨Q, 1, none⟩ v') := by
  have m2 := h.below h2 hB
  have hs2 := h2.size
  have hs4 := hg.size
  have hlt := m2.lt
  have hke : Keep Q w4 (w4.setCell ⟨Q, 1, none⟩ v') := (Keep.refl _ _).setCell _ rfl _
  have hne : v'.ownBlock ≠ some Q := by
    rcases hw with e | e
    · rw [e]; exact h.sep
    · rw [e]; intro e2; have := Option.some.inj e2; omega
  have hbq : Below Q w2 (w4.setCell ⟨Q, 1, none⟩ v') := ((Below.refl Q w2).grown hg (by omega) (fun k hk => (m2.row.lt k hk).1)).trans (hke.toBelow (Nat.le_refl _) (by omega))
  refine ⟨⟨?_, ?_, hne, fun f hf => ?_⟩, (h2.mono (by have := h.lt; omega)).trans hbq⟩
  · have h5 : w4.heap[Q]? = some (.cells #[.int .i64 ar, v] 44 (0, 0)) := (hg.block Q hlt (fun e => h.sep e.symm)).trans m2.box
    exact heap_setCell_same w4 Q 1 #[.int .i64 ar, v] 44 v' h5
  · have e1 : flatI (es ++ [e]) = flatI es ++ e.cells := by simp [flatI]
    rw [e1, List.length_append]
    exact hown.kept hke (Or.inr (by simpa using hne))
  · have h1 : f.Ok (fun b => b < B) w2 := by
      rcases List.mem_append.1 hf with hf | hf
      · exact m2.ok f hf
      · simp at hf
        subst hf
        exact he.stay (fun k hk => h2.block k (by have := h.lt; omega)) (fun _ hk => hk)
    exact h1.stay (fun k hk => hbq.block k (by omega)) (fun _ hk => hk)
theorem AQ.pe {Q B : Nat} {ar : Int} {a : Option Addr} {c : Nat} {es : List IE} {w : World} (h : AQ Q B ar (.slice a es.length c) es w) {ok : Nat → Prop} (h1 : ∀ b, b < B → ok b) (h2 : ∀ g, Q ≤ g → g < w.heap.size → ok g) : (PE.mk ar es a c).Ok ok w := by
  refine ⟨?_, ?_, fun e he => (h.ok e he).stay (fun _ _ => rfl) h1⟩
  · obtain ⟨va, vc, e, hvc⟩ := own_slice h.row
    simp at e
    show es.length ≤ c
    rw [e.2]; exact hvc
  · by_cases h0 : es = []
    · exact Or.inl h0
    · obtain ⟨g, vc, e, hvc, hQg, hg, _, hc⟩ := own_at h.row (List.length_pos_iff.2 h0)
      simp at e
      exact Or.inr ⟨g, e.1, h2 g hQg hg, hc⟩
theorem alloc1_cells (w : World) (cs : Array Value) (t : TypeId) (xs : List Value) (h : xs = cs.toList) (j : Nat) (u : Value) (hu : xs[j]? = some u) : (w.alloc (.cells cs t)).cell? ⟨w.heap.size, 0 + j, none⟩ = some u := by
  have := World.cell?_alloc_mark w cs t (0, 0) j
  rw [Nat.zero_add]
  refine this.trans ?_
  subst h
  rw [← hu]
  simp
theorem PnOk.lift0 {w w' : World} {pv : Value} {ps : List PE} (h : PnOk w pv ps) (hb : Below w.heap.size w w') : PnOk w' pv ps := h.lift hb
theorem map_cons_inv {α β : Type} {f : α → β} {l : List α} {y : β} {r : List β} (h : l.map f = y :: r) : ∃ x t, l = x :: t ∧ f x = y ∧ t.map f = r := by
  cases l with
  | nil => simp at h
  | cons x t => simp at h; exact ⟨x, t, rfl, h.1, h.2⟩

set_option maxRecDepth 100000 in
set_option maxHeartbeats 12800000 in
theorem CodeJoined_walk (Fa Fb : Nat) (a b : List Cor) (aa ba : Option Addr) (ac bc : Nat) (w : World) (ha : Cc w.heap.size w Fa aa a) (hb : Cc w.heap.size w Fb ba b) (hac : a.length ≤ ac) (hbc : b.length ≤ bc) (hna : nmL a) (hnb : nmL b) (hlen : (a.length + b.length) * 152 ≤ 140737488355328) :
    Calls Try.prog 5 #[.slice aa a.length ac, .slice ba b.length bc] w fun e w' => e = .returned (.bool true) ∧ Below w.heap.size w w' := by
  have CA : Hid (∀ W, Below w.heap.size w W → Calls Try.prog 7 #[.agg #[.string ⟨#[]⟩, .slice aa a.length ac]] W (ToldC ⟨#[]⟩ (compile a) W)) := fun W h => Compile_any w.heap.size Fa ⟨#[]⟩ a aa ac W (ha.below h) h.size hac hna (Nat.zero_le _)
  have CB : Hid (∀ W, Below w.heap.size w W → Calls Try.prog 7 #[.agg #[.string ⟨#[]⟩, .slice ba b.length bc]] W (ToldC ⟨#[]⟩ (compile b) W)) := fun W h => Compile_any w.heap.size Fb ⟨#[]⟩ b ba bc W (hb.below h) h.size hbc hnb (Nat.zero_le _)
  have CX : Hid (∀ W F x c, Cc W.heap.size W F x (a ++ b) → (a ++ b).length ≤ c → Calls Try.prog 7 #[.agg #[.string ⟨#[]⟩, .slice x (a ++ b).length c]] W (ToldC ⟨#[]⟩ (compile (a ++ b)) W)) := fun W F x c h1 h2 => Compile_any W.heap.size F ⟨#[]⟩ (a ++ b) x c W h1 (Nat.le_refl _) h2 (nmL_append a b hna hnb) (Nat.zero_le _)
  have JO := hidd (compile_joined (a := a) (b := b))
  obtain ⟨ea, hea, hoka, hsa⟩ := ha.ents
  obtain ⟨eb, heb, hokb, hsb⟩ := hb.ents
  have hla : ea.length = a.length := by rw [← hea, List.length_map]
  have hlb : eb.length = b.length := by rw [← heb, List.length_map]
  have EAB : Hid ((ea ++ eb).map CE.c = a ++ b ∧ ∀ e ∈ ea ++ eb, e.Ok w.heap.size (Fa + Fb) w) := by
    refine ⟨by rw [List.map_append, hea, heb], fun e he => ?_⟩
    rcases List.mem_append.1 he with he | he
    · exact (hoka e he).upto Fb
    · have := (hokb e he).upto Fa
      rwa [Nat.add_comm] at this
  rw [hla] at hsa
  rw [hlb] at hsb
  have HSA := hidd hsa
  have HSB := hidd hsb
  have HLA := hidd hla
  have HLB := hidd hlb
  have hal : a.length ≤ 1000000000000 := by omega
  have hbl : b.length ≤ 1000000000000 := by omega
  clear ha hb hna hnb hea hoka hsa heb hokb hsb hla hlb
  generalize compile a = RA at CA JO
  generalize compile b = RB at CB JO
  generalize compile (a ++ b) = RX at CX JO
  obtain ⟨r1, l1⟩ := RA
  obtain ⟨r2, l2⟩ := RB
  obtain ⟨r3, l3⟩ := RX
  simp only at JO
  go_enter Try.func5, Try.ntmps5
  go_wp2_with fail
  refine (alive_any _).mono ?_
  rintro e v0 ⟨rfl, hb⟩
  have HB0 := hidd hb
  clear hb
  go_wp2_with fail
  refine (CA.out _ HB0.out).mono ?_
  rintro e v1 ⟨hb, nm1, pv1, ps1, rfl, _, _, hps1, hpn1⟩
  obtain ⟨pa, pc, rfl, hpc, _⟩ := id hpn1
  simp only at hps1
  simp only
  have ba1 : Below v1.heap.size v1 (v1.alloc (.cells #[.string nm1, .slice pa ps1.length pc] 27)) := (Below.refl _ _).alloc (Nat.le_refl _) _
  have HU1 := hidd (World.alloc_heap_new v1 (.cells #[.string nm1, .slice pa ps1.length pc] 27))
  have HB1 := hidd ((HB0.out.trans (hb.mono HB0.out.size)).trans (ba1.mono (HB0.out.trans (hb.mono HB0.out.size)).size))
  have PN1 := hidd (hpn1.lift ba1)
  have PS1 := hidd hps1
  clear hb hps1 hpn1 ba1 HB0 CA
  obtain ⟨pn, hpn⟩ : ∃ n, n = ps1.length := ⟨_, rfl⟩
  rw [← hpn] at HU1 HB1 PN1 hpc ⊢
  have HN1 := hidd hpn
  clear hpn
  go_upto_region 4 with fail
  generalize v1.alloc (.cells #[.string nm1, .slice pa pn pc] 27) = W1 at HU1 HB1 PN1 ⊢
  generalize v1.heap.size = ub at HU1 ⊢
  go_wp2_with fail
  refine (CB.out _ HB1.out).mono ?_
  rintro e v2 ⟨hb, nm2, pv2, ps2, rfl, _, _, hps2, hpn2⟩
  obtain ⟨qa, qc, rfl, hqc, _⟩ := id hpn2
  simp only at hps2
  simp only
  have ba2 : Below v2.heap.size v2 (v2.alloc (.cells #[.string nm2, .slice qa ps2.length qc] 27)) := (Below.refl _ _).alloc (Nat.le_refl _) _
  have HV2 := hidd (World.alloc_heap_new v2 (.cells #[.string nm2, .slice qa ps2.length qc] 27))
  have bb := hb.trans (ba2.mono hb.size)
  have HB2 := hidd (HB1.out.trans (bb.mono HB1.out.size))
  have HU2 := hidd ((bb.block _ (Array.getElem?_eq_some_iff.1 HU1.out).1).trans HU1.out)
  have P12 := hidd (PN1.out.lift bb)
  have PN2 := hidd (hpn2.lift ba2)
  have PS2 := hidd hps2
  clear hb hps2 hpn2 ba2 bb HB1 HU1 PN1 CB
  obtain ⟨qn, hqn⟩ : ∃ n, n = ps2.length := ⟨_, rfl⟩
  rw [← hqn] at HV2 HB2 HU2 P12 PN2 hqc ⊢
  have HN2 := hidd hqn
  clear hqn
  go_upto_region 5 with fail
  generalize v2.alloc (.cells #[.string nm2, .slice qa qn qc] 27) = W2 at HV2 HB2 HU2 P12 PN2 ⊢
  generalize v2.heap.size = vb at HV2 ⊢
  obtain ⟨i0, hinf, hz0, hz1, hz2⟩ := info_parts infoCore
  have hb2a : Below W2.heap.size W2 (W2.alloc (.cells #[] 40)) := (Below.refl _ _).alloc (Nat.le_refl _) _
  have SA : Hid (a.length = 0 ∨ ∃ b o, aa = some ⟨b, o, none⟩ ∧ ∀ j u, (flatC ea)[j]? = some u → (W2.alloc (.cells #[] 40)).cell? ⟨b, o + j, none⟩ = some u) := by
    rcases HSA.out with h | ⟨b, o, h1, h2, h3⟩
    · exact Or.inl h
    · exact Or.inr ⟨b, o, h1, fun j u hu => ((HB2.out.trans (hb2a.mono HB2.out.size)).cell (p := ⟨b, o + j, none⟩) h2).trans (h3 j u hu)⟩
  have B2A := hidd hb2a
  clear hb2a
  go_wp2_with (at_builtin; refine wpList_row rfl _ _ 22 rfl W2.heap.size 40 i0 _ 12 152 Try.underlying22 hinf hz0 hz1 hz2 rfl (by decide) (.slice (some ⟨W2.heap.size, 0, none⟩) 0 0) 0 [] rfl (own_fresh W2 40 12) aa a.length ac (flatC ea) rfl (by rw [flatC_len, HLA.out]) SA.out (flatC_one _) (by unfold maxLen; omega) (by omega) (by simp) ?_)
  intro v3 w3 hown3 hg3 hw3
  have hb3 := B2A.out.trans ((Below.refl W2.heap.size _).grown hg3 (by simp) (fun k hk => by simp [Value.ownBlock] at hk; omega))
  have SB : Hid (b.length = 0 ∨ ∃ b o, ba = some ⟨b, o, none⟩ ∧ ∀ j u, (flatC eb)[j]? = some u → w3.cell? ⟨b, o + j, none⟩ = some u) := by
    rcases HSB.out with h | ⟨b, o, h1, h2, h3⟩
    · exact Or.inl h
    · exact Or.inr ⟨b, o, h1, fun j u hu => ((HB2.out.trans (hb3.mono HB2.out.size)).cell (p := ⟨b, o + j, none⟩) h2).trans (h3 j u hu)⟩
  obtain ⟨sa, sc, rfl, hsc⟩ := own_slice hown3
  have OW3 := hidd hown3
  have BB3 := hidd hb3
  clear hown3 hg3 hw3 hb3 B2A SA HSA HSB
  try simp only [Act.put, List.setIfInBounds_toArray, List.set_cons_succ, List.set_cons_zero]
  go_wp2_with (at_builtin; refine wpList_row rfl _ _ 22 rfl W2.heap.size 40 i0 _ 12 152 Try.underlying22 hinf hz0 hz1 hz2 rfl (by decide) (.slice sa a.length sc) a.length (flatC ea) rfl OW3.out ba b.length bc (flatC eb) rfl (by rw [flatC_len, HLB.out]) SB.out (flatC_one _) (by unfold maxLen; omega) hlen BB3.out.size ?_)
  intro v4 w4 hown4 hg4 hw4
  have hb4 := BB3.out.trans ((Below.refl W2.heap.size _).grown hg4 BB3.out.size (fun k hk => (OW3.out.lt k hk).1))
  obtain ⟨xa, xc, hv4, hxc, hcc⟩ := Cc.of_row (B := W2.heap.size) (B' := w.heap.size) (F := Fa + Fb) (es := ea ++ eb) (w := w4) (v := v4) (by rw [flatC_append, List.length_append, HLA.out, HLB.out]; exact hown4) (fun e he => (EAB.out.2 e he).stay (fun k hk => (HB2.out.trans (hb4.mono HB2.out.size)).block k hk)) (Nat.le_trans HB2.out.size hb4.size) (by rw [List.length_append, HLA.out, HLB.out]; omega)
  rw [EAB.out.1] at hv4 hxc hcc
  subst hv4
  have CX4 := hidd (CX.out w4 _ xa xc hcc hxc)
  have HB4 := hidd hb4
  clear hown4 hg4 hw4 hb4 hcc hxc OW3 BB3 SB EAB HLA HLB CX hsc
  generalize (a ++ b).length = xl at CX4 ⊢
  try simp only [Act.put, List.setIfInBounds_toArray, List.set_cons_succ, List.set_cons_zero]
  go_wp2_with fail
  refine CX4.out.mono ?_
  rintro e v5 ⟨hb, nm3, pv3, ps3, rfl, _, _, hps3, hpn3⟩
  obtain ⟨ra, rc, rfl, hrc, _⟩ := id hpn3
  simp only at hps3
  simp only
  have ba3 : Below v5.heap.size v5 (v5.alloc (.cells #[.string nm3, .slice ra ps3.length rc] 27)) := (Below.refl _ _).alloc (Nat.le_refl _) _
  have HX3 := hidd (World.alloc_heap_new v5 (.cells #[.string nm3, .slice ra ps3.length rc] 27))
  have bb := HB4.out.trans ((hb.trans (ba3.mono hb.size)).mono HB4.out.size)
  have HB3 := hidd (HB2.out.trans (bb.mono HB2.out.size))
  have HU3 := hidd ((bb.block _ (Array.getElem?_eq_some_iff.1 HU2.out).1).trans HU2.out)
  have HV3 := hidd ((bb.block _ (Array.getElem?_eq_some_iff.1 HV2.out).1).trans HV2.out)
  have P13 := hidd (P12.out.lift bb)
  have P23 := hidd (PN2.out.lift bb)
  have P33 := hidd (hpn3.lift ba3)
  have PS3 := hidd hps3
  clear hb hps3 hpn3 ba3 bb HB2 HU2 HV2 P12 PN2 HB4 CX4
  obtain ⟨rn, hrn⟩ : ∃ n, n = ps3.length := ⟨_, rfl⟩
  rw [← hrn] at HX3 HB3 HU3 HV3 P13 P23 P33 hrc ⊢
  have HN3 := hidd hrn
  clear hrn
  go_upto_region 6 with fail
  generalize v5.alloc (.cells #[.string nm3, .slice ra rn rc] 27) = W3 at HX3 HB3 HU3 HV3 P13 P23 P33 ⊢
  generalize v5.heap.size = xb at HX3 ⊢
  by_cases y1 : r1 = 0
  case neg =>
    have y1' : (r1 != 0) = true := by simpa using y1
    clear JO
    go_wp2_with fail
    go_ret
    exact ⟨rfl, HB3.out⟩
  by_cases y2 : r2 = 0
  case neg =>
    have y1' : (r1 != 0) = false := by simpa using y1
    have y2' : (r2 != 0) = true := by simpa using y2
    clear JO
    go_wp2_with fail
    go_ret
    exact ⟨rfl, HB3.out⟩
  by_cases y3 : r3 = 0
  case neg =>
    have y1' : (r1 != 0) = false := by simpa using y1
    have y2' : (r2 != 0) = false := by simpa using y2
    have y3' : (r3 != 0) = true := by simpa using y3
    clear JO
    go_wp2_with fail
    go_ret
    exact ⟨rfl, HB3.out⟩
  obtain ⟨ca, ta, cb, tb, e1, e2, e3, n1, n2, n3, n4, j1, j2, j3⟩ := JO.out y1 y2 y3
  subst y1 y2 y3
  rw [e1] at PS1
  rw [e2] at PS2
  rw [e3] at PS3
  clear e1 e2 e3 JO
  obtain ⟨p0, pt, rfl, hp0, hpt⟩ := map_cons_inv PS1.out
  obtain ⟨q0, qt, rfl, hq0, hqt⟩ := map_cons_inv PS2.out
  obtain ⟨t1, t2, b1, rfl, hb1, c10, c11, ok1, ct1, okt1⟩ := P13.out.tail
  obtain ⟨s1, s2, b2, rfl, hb2, c20, c21, ok2, ct2, okt2⟩ := P23.out.tail
  have hpes : p0.es.map IE.i = ca ++ [insO 15] := congrArg Pro.code hp0
  have hqes : q0.es.map IE.i = cb := congrArg Pro.code hq0
  have hpl : p0.es.length = ca.length + 1 := by rw [← List.length_map (f := IE.i), hpes]; simp
  have hql : q0.es.length = cb.length := by rw [← hqes, List.length_map]
  have hptl : pt.length = ta.length := by rw [← hpt, List.length_map]
  have hqtl : qt.length = tb.length := by rw [← hqt, List.length_map]
  obtain ⟨n, hn⟩ : ∃ n, n = ca.length := ⟨_, rfl⟩
  obtain ⟨k, hk⟩ : ∃ k, k = ta.length := ⟨_, rfl⟩
  obtain ⟨m, hm⟩ : ∃ m, m = cb.length := ⟨_, rfl⟩
  obtain ⟨q, hq⟩ : ∃ q, q = tb.length := ⟨_, rfl⟩
  rw [← hn] at hpl n1
  rw [← hk] at hptl n2
  rw [← hm] at hql n3
  rw [← hq] at hqtl n4
  rw [← hn, ← hk] at PS3
  rw [hptl] at t1
  rw [hqtl] at s1
  subst t1 s1
  rw [hpl] at c11
  rw [hql] at c21
  obtain ⟨g1, hg1, hg1l, hcg1⟩ : ∃ g, p0.a = some ⟨g, 0, none⟩ ∧ g < W3.heap.size ∧ ∀ j u, (flatI p0.es)[j]? = some u → W3.cell? ⟨g, j, none⟩ = some u := by
    rcases ok1.2.1 with h | ⟨g, h1, h2, h3⟩
    · rw [h] at hpl; simp at hpl
    · exact ⟨g, h1, h2, h3⟩
  rw [hg1] at c11
  have hpc2 : n + 1 ≤ p0.c := by have := ok1.1; omega
  have hqc2 : m ≤ q0.c := by have := ok2.1; omega
  have IP1 : Hid (∀ e ∈ p0.es, e.Ok (fun b => b < W3.heap.size) W3) := ok1.2.2
  have OK2 := hidd ok2
  have CG1 := hidd hcg1
  have CT1 := hidd ct1
  have CT2 := hidd ct2
  have OKT1 := hidd okt1
  have OKT2 := hidd okt2
  have MA : Hid (p0.es.map IE.i = ca ++ [insO 15] ∧ q0.es.map IE.i = cb ∧ pt.map PE.pro = ta ∧ qt.map PE.pro = tb ∧ n = ca.length ∧ k = ta.length ∧ m = cb.length ∧ q = tb.length ∧ (∀ i ∈ cb, JB 6000 500 i) ∧ (∀ p ∈ tb, p.code.length ≤ 6000 ∧ ∀ i ∈ p.code, JB 6000 500 i) ∧ p0.es.length = n + 1 ∧ q0.es.length = m ∧ pt.length = k ∧ qt.length = q) := ⟨hpes, hqes, hpt, hqt, hn, hk, hm, hq, j1, j3, hpl, hql, hptl, hqtl⟩
  have J2 := hidd j2
  clear ok1 ok2 hcg1 ct1 ct2 okt1 okt2 hpes hqes hpt hqt hn hk hm hq j1 j2 j3 hpl hql hptl hqtl hp0 hq0 PS1 PS2 P13 P23 hg1 c10 c20 HN1 HN2
  have u1 : W3.cell? ⟨ub, 1, none⟩ = some (.slice (some ⟨b1, 0, none⟩) (k + 1) pc) := (cellOf HU3.out).trans rfl
  have hub : ub < W3.heap.size := (Array.getElem?_eq_some_iff.1 HU3.out).1
  go_upto_region 8 with fail
  refine wp_region_held_drew (S := fun u => Below W3.heap.size W3 u) (by kernel_rfl) (Below.drew (Below.refl _ _)) (fun hS => ?_)
  refine wpAnyH_take (i := 0) (oi := { dst := some 56, op := Op.fieldAddr 27 (Operand.tmp 5) 1, type := 0, pos := _, after := _, guard := none }) (v := .pointer (some ⟨ub, 1, none⟩)) rfl (by kernel_rfl) (by kernel_rfl) (by kernel_rfl) (fun _ _ _ h => h) (Or.inl ⟨by rfl, fun u hu => by go_simp⟩) hS ?_
  simp only [Act.put, List.setIfInBounds_toArray, List.set_cons_zero, List.set_cons_succ]
  refine wpAnyH_take (i := 1) (oi := { dst := some 57, op := Op.load 25 (Operand.tmp 56), type := 25, pos := _, after := _, guard := none }) (v := .slice (some ⟨b1, 0, none⟩) (k + 1) pc) rfl (by kernel_rfl) (by kernel_rfl) (by kernel_rfl) (fun _ _ _ h => h) (Or.inl ⟨by rfl, fun u hu => by (have z := (hu.cell (p := ⟨ub, 1, none⟩) hub).trans u1; go_simp)⟩) hS ?_
  simp only [Act.put, List.setIfInBounds_toArray, List.set_cons_zero, List.set_cons_succ]
  refine wpAnyH_take (i := 2) (oi := { dst := some 58, op := Op.indexAddr 25 (Operand.tmp 57) (Operand.const (Value.int IntKind.i64 0)), type := 0, pos := _, after := _, guard := none }) (v := .pointer (some ⟨b1, 0, none⟩)) rfl (by kernel_rfl) (by kernel_rfl) (by kernel_rfl) (fun _ _ _ h => h) (Or.inl ⟨by rfl, fun u hu => by go_simp⟩) hS ?_
  simp only [Act.put, List.setIfInBounds_toArray, List.set_cons_zero, List.set_cons_succ]
  refine wpAnyH_take (i := 3) (oi := { dst := some 59, op := Op.fieldAddr 44 (Operand.tmp 58) 1, type := 0, pos := _, after := _, guard := none }) (v := .pointer (some ⟨b1, 1, none⟩)) rfl (by kernel_rfl) (by kernel_rfl) (by kernel_rfl) (fun _ _ _ h => h) (Or.inl ⟨by rfl, fun u hu => by go_simp⟩) hS ?_
  simp only [Act.put, List.setIfInBounds_toArray, List.set_cons_zero, List.set_cons_succ]
  refine wpAnyH_take (i := 4) (oi := { dst := some 60, op := Op.load 42 (Operand.tmp 59), type := 42, pos := _, after := _, guard := none }) (v := .slice (some ⟨g1, 0, none⟩) (n + 1) p0.c) rfl (by kernel_rfl) (by kernel_rfl) (by kernel_rfl) (fun _ _ _ h => h) (Or.inl ⟨by rfl, fun u hu => by (have z := (hu.cell (p := ⟨b1, 1, none⟩) hb1).trans c11; go_simp)⟩) hS ?_
  simp only [Act.put, List.setIfInBounds_toArray, List.set_cons_zero, List.set_cons_succ]
  refine wpAnyH_take (i := 5) (oi := { dst := some 61, op := Op.call { callee := Callee.builtin Builtin.len, args := #[Operand.tmp 60], argTypes := #[42] }, type := 3, pos := _, after := _, guard := none }) (v := .int .i64 ((n : Int) + 1)) rfl (by kernel_rfl) (by kernel_rfl) (by kernel_rfl) (fun _ _ _ h => h) (Or.inl ⟨by rfl, fun u hu => by go_simp⟩) hS ?_
  simp only [Act.put, List.setIfInBounds_toArray, List.set_cons_zero, List.set_cons_succ]
  refine wpAnyH_take (i := 6) (oi := { dst := some 62, op := Op.binOp BinOp.sub 3 (Operand.tmp 61) (Operand.const (Value.int IntKind.i64 1)) 3, type := 3, pos := _, after := _, guard := none }) (v := .int .i64 n) rfl (by kernel_rfl) (by kernel_rfl) (by kernel_rfl) (fun _ _ _ h => h) (Or.inl ⟨by rfl, fun u hu => by (go_simp; exact wrapI (by omega) (by omega))⟩) hS ?_
  simp only [Act.put, List.setIfInBounds_toArray, List.set_cons_zero, List.set_cons_succ]
  refine wpAnyH_take (i := 7) (oi := { dst := some 63, op := Op.fieldAddr 27 (Operand.tmp 5) 1, type := 0, pos := _, after := _, guard := none }) (v := .pointer (some ⟨ub, 1, none⟩)) rfl (by kernel_rfl) (by kernel_rfl) (by kernel_rfl) (fun _ _ _ h => h) (Or.inl ⟨by rfl, fun u hu => by go_simp⟩) hS ?_
  simp only [Act.put, List.setIfInBounds_toArray, List.set_cons_zero, List.set_cons_succ]
  refine wpAnyH_take (i := 8) (oi := { dst := some 64, op := Op.load 25 (Operand.tmp 63), type := 25, pos := _, after := _, guard := none }) (v := .slice (some ⟨b1, 0, none⟩) (k + 1) pc) rfl (by kernel_rfl) (by kernel_rfl) (by kernel_rfl) (fun _ _ _ h => h) (Or.inl ⟨by rfl, fun u hu => by (have z := (hu.cell (p := ⟨ub, 1, none⟩) hub).trans u1; go_simp)⟩) hS ?_
  simp only [Act.put, List.setIfInBounds_toArray, List.set_cons_zero, List.set_cons_succ]
  refine wpAnyH_take (i := 9) (oi := { dst := some 65, op := Op.call { callee := Callee.builtin Builtin.len, args := #[Operand.tmp 64], argTypes := #[25] }, type := 3, pos := _, after := _, guard := none }) (v := .int .i64 ((k : Int) + 1)) rfl (by kernel_rfl) (by kernel_rfl) (by kernel_rfl) (fun _ _ _ h => h) (Or.inl ⟨by rfl, fun u hu => by go_simp⟩) hS ?_
  simp only [Act.put, List.setIfInBounds_toArray, List.set_cons_zero, List.set_cons_succ]
  refine wpAnyH_take (i := 10) (oi := { dst := some 66, op := Op.binOp BinOp.sub 3 (Operand.tmp 65) (Operand.const (Value.int IntKind.i64 1)) 3, type := 3, pos := _, after := _, guard := none }) (v := .int .i64 k) rfl (by kernel_rfl) (by kernel_rfl) (by kernel_rfl) (fun _ _ _ h => h) (Or.inl ⟨by rfl, fun u hu => by (go_simp; exact wrapI (by omega) (by omega))⟩) hS ?_
  simp only [Act.put, List.setIfInBounds_toArray, List.set_cons_zero, List.set_cons_succ]
  refine wpAnyH_take (i := 11) (oi := { dst := some 11, op := Op.assign (Operand.tmp 62), type := 3, pos := _, after := _, guard := none }) (v := .int .i64 n) rfl (by kernel_rfl) (by kernel_rfl) (by kernel_rfl) (fun _ _ _ h => h) (Or.inl ⟨by rfl, fun u hu => by go_simp⟩) hS ?_
  simp only [Act.put, List.setIfInBounds_toArray, List.set_cons_zero, List.set_cons_succ]
  refine wpAnyH_take (i := 12) (oi := { dst := some 12, op := Op.assign (Operand.tmp 66), type := 3, pos := _, after := _, guard := none }) (v := .int .i64 k) rfl (by kernel_rfl) (by kernel_rfl) (by kernel_rfl) (fun _ _ _ h => h) (Or.inl ⟨by rfl, fun u hu => by go_simp⟩) hS ?_
  simp only [Act.put, List.setIfInBounds_toArray, List.set_cons_zero, List.set_cons_succ]
  refine wpAnyH_done (by kernel_rfl) ?_ _
  have b4 : Below W3.heap.size W3 W3.drew := hS
  have HB4 : Hid (Below w.heap.size w W3.drew) := HB3.out.trans (b4.mono HB3.out.size)
  have hvb : vb < W3.heap.size := (Array.getElem?_eq_some_iff.1 HV3.out).1
  have hxb : xb < W3.heap.size := (Array.getElem?_eq_some_iff.1 HX3.out).1
  have U4 : Hid (W3.drew.cell? ⟨ub, 1, none⟩ = some (.slice (some ⟨b1, 0, none⟩) (k + 1) pc) ∧ ub < W3.drew.heap.size) := ⟨(b4.cell (p := ⟨ub, 1, none⟩) hub).trans u1, hub⟩
  have V4 : Hid (W3.drew.cell? ⟨vb, 1, none⟩ = some (.slice (some ⟨b2, 0, none⟩) (q + 1) qc) ∧ vb < W3.drew.heap.size) := ⟨(b4.cell (p := ⟨vb, 1, none⟩) hvb).trans ((cellOf HV3.out).trans rfl), hvb⟩
  have X4 : Hid (W3.drew.cell? ⟨xb, 1, none⟩ = some (.slice ra rn rc) ∧ xb < W3.drew.heap.size) := ⟨(b4.cell (p := ⟨xb, 1, none⟩) hxb).trans ((cellOf HX3.out).trans rfl), hxb⟩
  have D11 : Hid (W3.drew.cell? ⟨b1, 1, none⟩ = some (.slice (some ⟨g1, 0, none⟩) (n + 1) p0.c) ∧ b1 < W3.drew.heap.size) := ⟨(b4.cell (p := ⟨b1, 1, none⟩) hb1).trans c11, hb1⟩
  obtain ⟨ga, hga⟩ : ∃ x, x = q0.a := ⟨_, rfl⟩
  rw [← hga] at c21
  have HGA := hidd hga
  have D21 : Hid (W3.drew.cell? ⟨b2, 1, none⟩ = some (.slice ga m q0.c) ∧ b2 < W3.drew.heap.size) := ⟨(b4.cell (p := ⟨b2, 1, none⟩) hb2).trans c21, hb2⟩
  have P34 := hidd (P33.out.lift b4)
  have IP4 : Hid (∀ e ∈ p0.es, e.Ok (fun b => b < W3.drew.heap.size) W3.drew) := fun e he => (IP1.out e he).stay (fun _ _ => rfl) (fun _ h => h)
  have OK4 : Hid (q0.Ok (fun b => b < W3.drew.heap.size) W3.drew) := OK2.out.stay (fun _ _ => rfl) (fun _ h => h)
  have SRC1 : Hid (∀ j u, (flatI (p0.es.take n))[j]? = some u → W3.drew.cell? ⟨g1, 0 + j, none⟩ = some u) := fun j u hu => by
    rw [Nat.zero_add]
    exact (b4.cell (p := ⟨g1, j, none⟩) hg1l).trans (CG1.out j u (flatI_take hu))
  have T1 : Hid ((∀ j u, (flatP pt)[j]? = some u → W3.drew.cell? ⟨b1, 2 + j, none⟩ = some u) ∧ ∀ p ∈ pt, p.Ok (fun b => b < W3.drew.heap.size) W3.drew) := ⟨fun j u hu => (b4.cell (p := ⟨b1, 2 + j, none⟩) hb1).trans (CT1.out j u hu), fun p hp => (OKT1.out p hp).stay (fun _ _ => rfl) (fun _ h => h)⟩
  have T2 : Hid ((∀ j u, (flatP qt)[j]? = some u → W3.drew.cell? ⟨b2, 2 + j, none⟩ = some u) ∧ ∀ p ∈ qt, p.Ok (fun b => b < W3.drew.heap.size) W3.drew) := ⟨fun j u hu => (b4.cell (p := ⟨b2, 2 + j, none⟩) hb2).trans (CT2.out j u hu), fun p hp => (OKT2.out p hp).stay (fun _ _ => rfl) (fun _ h => h)⟩
  clear b4 hS HB3 hvb hxb hub u1 hb1 hb2 c11 c21 hg1l P33 IP1 OK2 CG1 CT1 CT2 OKT1 OKT2 HU3 HV3 HX3 hga
  generalize W3.drew = W4 at HB4 U4 V4 X4 D11 D21 P34 IP4 OK4 SRC1 T1 T2 ⊢
  obtain ⟨i1, jinf, jz0, jz1, jz2⟩ := info_parts infoIns
  have u4 := U4.out.1
  have d4 := D11.out.1
  have htk : (p0.es.take n).length = n := by rw [List.length_take, MA.out.2.2.2.2.2.2.2.2.2.2.1]; omega
  have HTK := hidd htk
  clear htk
  go_wp2_with (at_builtin; refine wpList_row rfl _ _ 42 rfl W4.heap.size 46 i1 _ 11 128 Try.underlying42 jinf jz0 jz1 jz2 rfl (by decide) (.slice none 0 0) 0 [] rfl (World.ownsRow_nil _ _ _ _) (some ⟨g1, 0, none⟩) n p0.c (flatI (p0.es.take n)) rfl (by rw [flatI_len, HTK.out]) (Or.inr ⟨g1, 0, rfl, SRC1.out⟩) (flatI_one _) (by unfold maxLen; omega) (by omega) (Nat.le_refl _) ?_)
  intro v6 w6 hown6 hg6 hw6
  obtain ⟨ri6, hb6⟩ := (RowI.nil W4.heap.size W4).more (fs := p0.es.take n) (v' := v6) (w' := w6) (Nat.le_refl _) (fun e he => IP4.out e (List.mem_of_mem_take he)) (by show w6.ownsRow _ 46 11 v6 (0 + (p0.es.take n).length) ([] ++ _); rw [HTK.out, Nat.zero_add, List.nil_append]; exact hown6) hg6
  obtain ⟨sa6, sc6, rfl, hsc6⟩ := own_slice hown6
  have RI6 := hidd ri6
  have HB6 := hidd hb6
  have z1 := (hb6.cell (p := ⟨vb, 1, none⟩) V4.out.2).trans V4.out.1
  have z2 := (hb6.cell (p := ⟨b2, 1, none⟩) D21.out.2).trans D21.out.1
  clear ri6 hb6 hown6 hg6 hw6 u4 d4 SRC1 IP4
  go_wp2_with fail
  clear z1 z2
  go_loopw [13, 82] (fun v ix wr => ∃ (j : Nat) (es : List IE) (sa : Option Addr) (sc : Nat), j ≤ m ∧ ix = .int .i64 j ∧ v = .slice sa es.length sc ∧ es.length ≤ sc ∧ Hid (es.map IE.i = ca ++ (cb.take j).map (onI n k)) ∧ Hid (Below W4.heap.size W4 wr) ∧ Hid (RowI W4.heap.size (.slice sa es.length sc) es wr)) (fun _ ix _ => m - (intOf ix).toNat)
  case atStart =>
    have hce : (p0.es.take n).map IE.i = ca := by rw [List.map_take, MA.out.1, MA.out.2.2.2.2.1, List.take_left' rfl]
    exact ⟨0, p0.es.take n, sa6, sc6, Nat.zero_le _, rfl, by rw [HTK.out], by rw [HTK.out]; exact hsc6, (show (p0.es.take n).map IE.i = ca ++ ((cb.take 0).map (onI n k)) by simp [hce]), HB6.out, by rw [HTK.out]; exact RI6.out⟩
  case round =>
    obtain ⟨j, es, sa, sc, hj, rfl, rfl, hsc, HM, HB, HR⟩ := hrel
    by_cases hlt : j < m
    · obtain ⟨e, he⟩ : ∃ e, q0.es[j]? = some e := ⟨q0.es[j]'(by have := MA.out.2.2.2.2.2.2.2.2.2.2.2.1; omega), List.getElem?_eq_getElem _⟩
      obtain ⟨c, hca, hcl, ic0, _⟩ := OK4.out.at he
      have hok := OK4.out.2.2 e (List.mem_of_getElem? he)
      rw [← HGA.out] at hca
      subst hca
      obtain ⟨x, xq, xc⟩ := e
      simp only at ic0
      have hcx : cb[j]? = some x := by rw [← MA.out.2.1, List.getElem?_map, he]; rfl
      have hjb := MA.out.2.2.2.2.2.2.2.2.1 x (List.mem_of_getElem? hcx)
      have HM2 : Hid (es.map IE.i ++ [onI n k x] = ca ++ (cb.take (j + 1)).map (onI n k)) := by
        show _ = _
        rw [HM.out, take_more hcx, List.map_append, List.append_assoc]; rfl
      have hel : es.length ≤ 12000 := by
        have := congrArg List.length HM.out
        simp only [List.length_append, List.length_map, List.length_take] at this
        have h5 := MA.out.2.2.2.2.1
        omega
      have k0 := (HB.out.cell (p := ⟨c, j * 11, none⟩) hcl).trans ic0.c0
      have k1 := (HB.out.cell (p := ⟨c, j * 11 + 1, none⟩) hcl).trans ic0.c1
      have k2 := (HB.out.cell (p := ⟨c, j * 11 + 2, none⟩) hcl).trans ic0.c2
      have k3 := (HB.out.cell (p := ⟨c, j * 11 + 3, none⟩) hcl).trans ic0.c3
      have k4 := (HB.out.cell (p := ⟨c, j * 11 + 4, none⟩) hcl).trans ic0.c4
      have k5 := (HB.out.cell (p := ⟨c, j * 11 + 5, none⟩) hcl).trans ic0.c5
      have k6 := (HB.out.cell (p := ⟨c, j * 11 + 6, none⟩) hcl).trans ic0.c6
      have k7 := (HB.out.cell (p := ⟨c, j * 11 + 7, none⟩) hcl).trans ic0.c7
      have k8 := (HB.out.cell (p := ⟨c, j * 11 + 8, none⟩) hcl).trans ic0.c8
      have k9 := (HB.out.cell (p := ⟨c, j * 11 + 9, none⟩) hcl).trans ic0.c9
      have k10 := (HB.out.cell (p := ⟨c, j * 11 + 10, none⟩) hcl).trans ic0.c10
      have HO : Hid (∀ W, Below wr.heap.size wr W → W.ownsRow W4.heap.size 46 11 (.slice sa es.length sc) es.length (flatI es) ∧ W4.heap.size ≤ W.heap.size) := fun W hb => ⟨own_below HR.out.own hb, Nat.le_trans HB.out.size hb.size⟩
      have PUSH : Hid (∀ W v' w' A, Below wr.heap.size wr W → w'.ownsRow W4.heap.size 46 11 v' (es.length + 1) (flatI es ++ (IE.mk A xq xc).cells) → W.grownBy w' (Value.slice sa es.length sc).ownBlock → onI n k x = A → A.lib = x.lib → A.own = x.own → A.quote = x.quote → ∃ (es' : List IE) (sa' : Option Addr) (sc' : Nat), es'.length = es.length + 1 ∧ v' = .slice sa' es'.length sc' ∧ es'.length ≤ sc' ∧ Hid (es'.map IE.i = ca ++ (cb.take (j + 1)).map (onI n k)) ∧ Hid (Below W4.heap.size W4 w') ∧ Hid (RowI W4.heap.size (.slice sa' es'.length sc') es' w')) := by
        intro W v' w' A hb ho hg hA h1 h2 h3
        have hr := HR.out.below hb HB.out.size
        obtain ⟨hr2, hb2⟩ := hr.more (fs := [⟨A, xq, xc⟩]) (v' := v') (w' := w') (Nat.le_trans HB.out.size hb.size) (fun e he => by
          simp at he
          subst he
          refine IE.Ok.stay (w := W4) ?_ (fun b hb4 => (HB.out.trans (hb.mono HB.out.size)).block b hb4) (fun _ h => h)
          obtain ⟨o1, o2, o3, o4, o5⟩ := hok
          unfold IE.Ok
          simp only [h1, h2, h3]
          exact ⟨o1, o2, o3, o4, o5⟩) (by simpa [flatI] using ho) hg
        obtain ⟨sa', sc', hv, hs'⟩ := own_slice hr2.own
        refine ⟨es ++ [⟨A, xq, xc⟩], sa', sc', by simp, hv, hs', ?_, (HB.out.trans (hb.mono HB.out.size)).trans hb2, by rw [← hv]; exact hr2⟩
        show _ = _
        rw [List.map_append, ← HM2.out, hA]; rfl
      have hwr : W4.heap.size ≤ wr.heap.size := HB.out.size
      clear hok ic0 he hcx HM HM2 HR HB
      by_cases o9 : x.op = 9
      · have EQ : Hid (onI n k x = { x with a := x.a + (n : Int) }) := onI_jump (Or.inl o9)
        have f9 : (x.op == 9) = true := by simpa using o9
        have f7 : (x.op == 7) = false := by rw [o9]; decide
        have a9 := hjb.1 (Or.inl o9)
        have wx : IntKind.i64.wrap (x.a + n) = x.a + n := wrapI (by omega) (by omega)
        clear o9 hjb
        go_wp2_with (at_builtin; refine wpList_row rfl _ _ 42 rfl W4.heap.size 46 i1 _ 11 128 Try.underlying42 jinf jz0 jz1 jz2 rfl (by decide) (.slice sa es.length sc) es.length (flatI es) rfl (HO.out _ (((Below.refl _ _).alloc (Nat.le_refl _) _).alloc (by simp) _)).1 (some ⟨wr.heap.size + 1, 0, none⟩) 1 1 (IE.mk { x with a := x.a + (n : Int) } xq xc).cells rfl rfl (Or.inr ⟨wr.heap.size + 1, 0, rfl, alloc2_cells wr _ _ _ _ rfl⟩) (IE.one _) (by unfold maxLen; omega) (by omega) (HO.out _ (((Below.refl _ _).alloc (Nat.le_refl _) _).alloc (by simp) _)).2 ?_)
        intro v7 w7 ho7 hg7 hw7
        obtain ⟨es', sa', sc', hl', rfl, hsc', HM', HB', HR'⟩ := PUSH.out _ v7 w7 _ (((Below.refl _ _).alloc (Nat.le_refl _) _).alloc (by simp) _) ho7 hg7 EQ.out rfl rfl rfl
        clear ho7 hg7 hw7 EQ PUSH HO k0 k1 k2 k3 k4 k5 k6 k7 k8 k9 k10
        go_wp2_with fail
        go_roundw
        case rel => exact ⟨j + 1, es', sa', sc', by omega, by go_num, rfl, hsc', HM', HB', HR'⟩
        case measure => simp [intOf]; omega
      by_cases o10 : x.op = 10
      · have EQ : Hid (onI n k x = { x with a := x.a + (n : Int) }) := onI_jump (Or.inr o10)
        have f9 : (x.op == 9) = false := by simpa using o9
        have f10 : (x.op == 10) = true := by simpa using o10
        have f7 : (x.op == 7) = false := by rw [o10]; decide
        have a9 := hjb.1 (Or.inr o10)
        have wx : IntKind.i64.wrap (x.a + n) = x.a + n := wrapI (by omega) (by omega)
        clear o9 o10 hjb
        go_wp2_with (at_builtin; refine wpList_row rfl _ _ 42 rfl W4.heap.size 46 i1 _ 11 128 Try.underlying42 jinf jz0 jz1 jz2 rfl (by decide) (.slice sa es.length sc) es.length (flatI es) rfl (HO.out _ (((Below.refl _ _).alloc (Nat.le_refl _) _).alloc (by simp) _)).1 (some ⟨wr.heap.size + 1, 0, none⟩) 1 1 (IE.mk { x with a := x.a + (n : Int) } xq xc).cells rfl rfl (Or.inr ⟨wr.heap.size + 1, 0, rfl, alloc2_cells wr _ _ _ _ rfl⟩) (IE.one _) (by unfold maxLen; omega) (by omega) (HO.out _ (((Below.refl _ _).alloc (Nat.le_refl _) _).alloc (by simp) _)).2 ?_)
        intro v7 w7 ho7 hg7 hw7
        obtain ⟨es', sa', sc', hl', rfl, hsc', HM', HB', HR'⟩ := PUSH.out _ v7 w7 _ (((Below.refl _ _).alloc (Nat.le_refl _) _).alloc (by simp) _) ho7 hg7 EQ.out rfl rfl rfl
        clear ho7 hg7 hw7 EQ PUSH HO k0 k1 k2 k3 k4 k5 k6 k7 k8 k9 k10
        go_wp2_with fail
        go_roundw
        case rel => exact ⟨j + 1, es', sa', sc', by omega, by go_num, rfl, hsc', HM', HB', HR'⟩
        case measure => simp [intOf]; omega
      by_cases o7 : x.op = 7
      · have EQ : Hid (onI n k x = { x with a := x.a + (k : Int) }) := onI_clos o7
        have f9 : (x.op == 9) = false := by simpa using o9
        have f10 : (x.op == 10) = false := by simpa using o10
        have f7 : (x.op == 7) = true := by simpa using o7
        have a9 := hjb.2 o7
        have wx : IntKind.i64.wrap (x.a + k) = x.a + k := wrapI (by omega) (by omega)
        clear o9 o10 o7 hjb
        go_wp2_with (at_builtin; refine wpList_row rfl _ _ 42 rfl W4.heap.size 46 i1 _ 11 128 Try.underlying42 jinf jz0 jz1 jz2 rfl (by decide) (.slice sa es.length sc) es.length (flatI es) rfl (HO.out _ (((Below.refl _ _).alloc (Nat.le_refl _) _).alloc (by simp) _)).1 (some ⟨wr.heap.size + 1, 0, none⟩) 1 1 (IE.mk { x with a := x.a + (k : Int) } xq xc).cells rfl rfl (Or.inr ⟨wr.heap.size + 1, 0, rfl, alloc2_cells wr _ _ _ _ rfl⟩) (IE.one _) (by unfold maxLen; omega) (by omega) (HO.out _ (((Below.refl _ _).alloc (Nat.le_refl _) _).alloc (by simp) _)).2 ?_)
        intro v7 w7 ho7 hg7 hw7
        obtain ⟨es', sa', sc', hl', rfl, hsc', HM', HB', HR'⟩ := PUSH.out _ v7 w7 _ (((Below.refl _ _).alloc (Nat.le_refl _) _).alloc (by simp) _) ho7 hg7 EQ.out rfl rfl rfl
        clear ho7 hg7 hw7 EQ PUSH HO k0 k1 k2 k3 k4 k5 k6 k7 k8 k9 k10
        go_wp2_with fail
        go_roundw
        case rel => exact ⟨j + 1, es', sa', sc', by omega, by go_num, rfl, hsc', HM', HB', HR'⟩
        case measure => simp [intOf]; omega
      · have EQ : Hid (onI n k x = x) := onI_else o9 o10 o7
        have f9 : (x.op == 9) = false := by simpa using o9
        have f10 : (x.op == 10) = false := by simpa using o10
        have f7 : (x.op == 7) = false := by simpa using o7
        clear o9 o10 o7 hjb
        go_wp2_with (at_builtin; refine wpList_row rfl _ _ 42 rfl W4.heap.size 46 i1 _ 11 128 Try.underlying42 jinf jz0 jz1 jz2 rfl (by decide) (.slice sa es.length sc) es.length (flatI es) rfl (HO.out _ (((Below.refl _ _).alloc (Nat.le_refl _) _).alloc (by simp) _)).1 (some ⟨wr.heap.size + 1, 0, none⟩) 1 1 (IE.mk x xq xc).cells rfl rfl (Or.inr ⟨wr.heap.size + 1, 0, rfl, alloc2_cells wr _ _ _ _ rfl⟩) (IE.one _) (by unfold maxLen; omega) (by omega) (HO.out _ (((Below.refl _ _).alloc (Nat.le_refl _) _).alloc (by simp) _)).2 ?_)
        intro v7 w7 ho7 hg7 hw7
        obtain ⟨es', sa', sc', hl', rfl, hsc', HM', HB', HR'⟩ := PUSH.out _ v7 w7 _ (((Below.refl _ _).alloc (Nat.le_refl _) _).alloc (by simp) _) ho7 hg7 EQ.out rfl rfl rfl
        clear ho7 hg7 hw7 EQ PUSH HO k0 k1 k2 k3 k4 k5 k6 k7 k8 k9 k10
        go_wp2_with fail
        go_roundw
        case rel => exact ⟨j + 1, es', sa', sc', by omega, by go_num, rfl, hsc', HM', HB', HR'⟩
        case measure => simp [intOf]; omega
    · obtain rfl : j = m := by omega
      have HC : Hid (es.map IE.i = ca ++ cb.map (onI n k)) := by
        have h5 := HM.out
        rw [MA.out.2.2.2.2.2.2.1, List.take_length] at h5
        exact h5
      have hel : es.length ≤ 12000 := by
        have h6 := congrArg List.length HC.out
        simp only [List.length_append, List.length_map] at h6
        have h7 := MA.out.2.2.2.2.1
        have h8 := MA.out.2.2.2.2.2.2.1
        omega
      have hpe : (PE.mk 0 es sa sc).Ok (fun b => b < wr.heap.size) wr := by
        obtain ⟨a', c', hv, h5, _⟩ := HR.out.pe HB.out.size 0
        simp at hv
        rw [hv.1, hv.2]
        exact h5
      have ba : Below wr.heap.size wr (wr.alloc (.cells #[.int .i64 0, .slice sa es.length sc] 44)) := (Below.refl _ _).alloc (Nat.le_refl _) _
      have RP : Hid (RowP W4.heap.size (.slice (some ⟨wr.heap.size, 0, none⟩) 1 1) [⟨0, es, sa, sc⟩] (wr.alloc (.cells #[.int .i64 0, .slice sa es.length sc] 44))) := by
        refine ⟨⟨rfl, Or.inr ⟨wr.heap.size, 1, #[.int .i64 0, .slice sa es.length sc], rfl, HB.out.size, World.alloc_heap_new wr _, Nat.le_refl _, by unfold maxLen; decide, rfl, rfl⟩⟩, fun p hp => ?_⟩
        simp at hp
        subst hp
        exact hpe.stay (fun b hb => ba.block b hb) (fun b hb => ⟨by simp; omega, by simp [Value.ownBlock]; omega⟩)
      have HB9 := hidd (HB.out.trans (ba.mono HB.out.size))
      have hwr := HB.out.size
      clear hpe ba HB HR HM
      go_upto_region 21 with fail
      generalize wr.alloc (.cells #[.int .i64 0, .slice sa es.length sc] 44) = W5 at RP HB9 ⊢
      have u5 := (HB9.out.cell (p := ⟨ub, 1, none⟩) U4.out.2).trans U4.out.1
      obtain ⟨i2, linf, lz0, lz1, lz2⟩ := info_parts infoPro
      have S5 : Hid (∀ j u, (flatP pt)[j]? = some u → W5.cell? ⟨b1, 2 + j, none⟩ = some u) := fun j u hu => (HB9.out.cell (p := ⟨b1, 2 + j, none⟩) D11.out.2).trans (T1.out.1 j u hu)
      go_cut [16] from 115 to 119 (fun v wx => ∃ xa xc, v = .slice xa ([PE.mk 0 es sa sc] ++ pt).length xc ∧ ([PE.mk 0 es sa sc] ++ pt).length ≤ xc ∧ Hid (Below W4.heap.size W4 wx) ∧ Hid (RowP W4.heap.size (.slice xa ([PE.mk 0 es sa sc] ++ pt).length xc) ([PE.mk 0 es sa sc] ++ pt) wx))
      case first =>
        by_cases hp1 : pc = 1
        · subst hp1
          have hk0 : k = 0 := by omega
          have hpt0 : pt = [] := List.length_eq_zero_iff.1 (by rw [MA.out.2.2.2.2.2.2.2.2.2.2.2.2.1]; exact hk0)
          have REL : Hid (Hid (Below W4.heap.size W4 W5) ∧ Hid (RowP W4.heap.size (.slice (some ⟨wr.heap.size, 0, none⟩) ([PE.mk 0 es sa sc] ++ pt).length 1) ([PE.mk 0 es sa sc] ++ pt) W5)) := ⟨HB9.out, by rw [hpt0]; exact RP.out⟩
          have HPT := hidd hpt0
          clear hpt0
          go_wp2_with fail
          go_meet
          case rel => exact ⟨_, 1, by rw [HPT.out]; rfl, by rw [HPT.out]; exact Nat.le_refl _, REL.out.1, REL.out.2⟩
        · go_wp2_with (at_builtin; refine wpList_row rfl _ _ 25 rfl W4.heap.size 44 i2 _ 2 32 Try.underlying25 linf lz0 lz1 lz2 rfl (by decide) (.slice (some ⟨wr.heap.size, 0, none⟩) 1 1) 1 (flatP [⟨0, es, sa, sc⟩]) rfl RP.out.own (some ⟨b1, 2, none⟩) k (pc - 1) (flatP pt) rfl (by rw [flatP_len, MA.out.2.2.2.2.2.2.2.2.2.2.2.2.1]) (Or.inr ⟨b1, 2, rfl, S5.out⟩) (flatP_one _) (by unfold maxLen; omega) (by omega) HB9.out.size ?_)
          intro v8 w8 ho8 hg8 hw8
          have hrp8 := RP.out.more (fs := pt) (v' := v8) (w' := w8) (fun p hp => (T1.out.2 p hp).stay (fun b hb => HB9.out.block b hb) (fun b hb => ⟨Nat.lt_of_lt_of_le hb HB9.out.size, by simp [Value.ownBlock]; omega⟩)) (by rw [MA.out.2.2.2.2.2.2.2.2.2.2.2.2.1]; exact ho8) hg8 hw8
          have hb8 := HB9.out.trans ((Below.refl W4.heap.size W5).grown hg8 HB9.out.size (fun k hk => (RP.out.own.lt k hk).1))
          obtain ⟨pa8, pc8, rfl, hpc8⟩ := own_slice hrp8.own
          have REL : Hid (Hid (Below W4.heap.size W4 w8) ∧ Hid (RowP W4.heap.size (.slice pa8 ([PE.mk 0 es sa sc] ++ pt).length pc8) ([PE.mk 0 es sa sc] ++ pt) w8)) := ⟨hb8, hrp8⟩
          clear hrp8 hb8 ho8 hg8 hw8
          go_wp2_with fail
          go_meet
          case rel => exact ⟨pa8, pc8, rfl, hpc8, REL.out.1, REL.out.2⟩
      case rest =>
      obtain ⟨pa8, pc8, rfl, hpc8, HB8, RP8⟩ := hcut
      have hpl8 : ([PE.mk 0 es sa sc] ++ pt).length ≤ 600 := by have h5 := MA.out.2.2.2.2.2.2.2.2.2.2.2.2.1; simp; omega
      have MP8 : Hid (([PE.mk 0 es sa sc] ++ pt).map PE.pro = ⟨0, ca ++ cb.map (onI n k)⟩ :: ta) := by
        show _ = _
        rw [List.map_append, MA.out.2.2.1, ← HC.out]; rfl
      have z1 := (HB8.out.cell (p := ⟨vb, 1, none⟩) V4.out.2).trans V4.out.1
      clear RP HB9 S5 u5
      generalize [PE.mk 0 es sa sc] ++ pt = ps0 at RP8 MP8 hpl8 hpc8 ⊢
      go_upto_region 22 with fail
      go_cut [122, 123, 124] from 120 to 124 (fun sl ln ix wx => ∃ ta2 tc2, sl = .slice ta2 q tc2 ∧ ln = .int .i64 q ∧ ix = .int .i64 0 ∧ q ≤ tc2 ∧ Hid (q = 0 ∨ ta2 = some ⟨b2, 2, none⟩) ∧ wx = wc)
      case first =>
        by_cases hq1 : qc = 1
        · subst hq1
          go_wp2_with fail
          go_meet
          case rel => exact ⟨some ⟨b2, 0, none⟩, 0, by rw [show q = 0 by omega], by rw [show q = 0 by omega]; rfl, rfl, by omega, Or.inl (by omega), rfl⟩
        · go_wp2_with fail
          go_meet
          case rel => exact ⟨some ⟨b2, 2, none⟩, qc - 1, rfl, rfl, rfl, by omega, Or.inr rfl, rfl⟩
      case rest =>
      obtain ⟨ta2, tc2, rfl, rfl, rfl, htc2, HT2, hwc⟩ := hcut
      subst hwc
      clear z1
      go_wp2_with fail
      go_loopw [16, 124] (fun v ix wr => ∃ (j : Nat) (ps : List PE) (xa : Option Addr) (xc : Nat), j ≤ q ∧ ix = .int .i64 j ∧ v = .slice xa ps.length xc ∧ ps.length ≤ xc ∧ Hid (ps.map PE.pro = (⟨0, ca ++ cb.map (onI n k)⟩ :: ta) ++ (tb.take j).map (onP k)) ∧ Hid (Below W4.heap.size W4 wr) ∧ Hid (RowP W4.heap.size (.slice xa ps.length xc) ps wr)) (fun _ ix _ => q - (intOf ix).toNat)
      case atStart => exact ⟨0, ps0, pa8, pc8, Nat.zero_le _, rfl, rfl, hpc8, (show ps0.map PE.pro = _ ++ (tb.take 0).map (onP k) by rw [MP8.out]; simp), HB8.out, RP8.out⟩
      case round =>
        clear RP8 HB8 hpc8 MP8 hpl8
        obtain ⟨j, ps, xa, xc, hj, rfl, rfl, hxc, HM, HB, HR⟩ := hrel
        by_cases hlt : j < q
        · obtain rfl : ta2 = some ⟨b2, 2, none⟩ := HT2.out.resolve_left (by omega)
          obtain ⟨p, hp⟩ : ∃ p, qt[j]? = some p := ⟨qt[j]'(by have := MA.out.2.2.2.2.2.2.2.2.2.2.2.2.2; omega), List.getElem?_eq_getElem _⟩
          have hpo := T2.out.2 p (List.mem_of_getElem? hp)
          have htb : tb[j]? = some p.pro := by rw [← MA.out.2.2.2.1, List.getElem?_map, hp]; rfl
          have hcode := MA.out.2.2.2.2.2.2.2.2.2.1 p.pro (List.mem_of_getElem? htb)
          have e0 := T2.out.1 (j * 2 + 0) _ (flat_at PE.cells 2 (fun _ => rfl) j hp 0 _ rfl)
          have e1 := T2.out.1 (j * 2 + 1) _ (flat_at PE.cells 2 (fun _ => rfl) j hp 1 _ rfl)
          obtain ⟨ar, pes, pa0, pc0⟩ := p
          simp only [PE.pro, List.length_map] at e0 e1 hcode htb
          rw [Nat.add_zero] at e0
          rw [← Nat.add_assoc] at e1
          have k0 := (HB.out.cell (p := ⟨b2, 2 + j * 2, none⟩) D21.out.2).trans e0
          have k1 := (HB.out.cell (p := ⟨b2, 2 + j * 2 + 1, none⟩) D21.out.2).trans e1
          have hpl : pes.length ≤ 6000 := hcode.1
          have hpc0 : pes.length ≤ pc0 := hpo.1
          have PO := hidd hpo
          have HJB : Hid (∀ i ∈ pes.map IE.i, JB 6000 500 i) := hcode.2
          have hpsl : ps.length ≤ 1200 := by
            have h5 := congrArg List.length HM.out
            have h6 := MA.out.2.2.2.2.2.1
            simp only [List.length_append, List.length_map, List.length_take, List.length_cons] at h5
            omega
          have HM2 : Hid (ps.map PE.pro ++ [onP k ⟨ar, pes.map IE.i⟩] = (⟨0, ca ++ cb.map (onI n k)⟩ :: ta) ++ (tb.take (j + 1)).map (onP k)) := by
            show _ = _
            rw [HM.out, take_more htb, List.map_append, List.append_assoc]; rfl
          have ba1 : Below wr.heap.size wr (wr.alloc (.cells #[.int .i64 ar, .slice pa0 pes.length pc0] 44)) := (Below.refl _ _).alloc (Nat.le_refl _) _
          have RP1 := hidd (HR.out.below ba1)
          have HB1 := hidd (HB.out.trans (ba1.mono HB.out.size))
          have PB1 := hidd (World.alloc_heap_new wr (.cells #[.int .i64 ar, .slice pa0 pes.length pc0] 44))
          have hwr2 := HB.out.size
          obtain ⟨pl, hpl2⟩ : ∃ pl, pl = pes.length := ⟨_, rfl⟩
          rw [← hpl2] at hpl hpc0 k1 RP1 HB1 PB1
          have HPL := hidd hpl2
          clear hpo htb hcode e0 e1 hp ba1 HR HM hpl2 HB
          go_upto_region 25 with fail
          clear k0 k1
          have p0' : (wr.alloc (.cells #[.int .i64 ar, .slice pa0 pl pc0] 44)).cell? ⟨wr.heap.size, 0, none⟩ = some (.int .i64 ar) := (cellOf PB1.out).trans rfl
          have hsz1 : (wr.alloc (.cells #[.int .i64 ar, .slice pa0 pl pc0] 44)).heap.size = wr.heap.size + 1 := by simp
          have HSZ := hidd hsz1
          clear hsz1
          generalize wr.alloc (.cells #[.int .i64 ar, .slice pa0 pl pc0] 44) = W1 at RP1 HB1 PB1 p0' HSZ ⊢
          generalize wr.heap.size = pb at PB1 p0' HSZ hwr2 ⊢
          have ba2 : Below W1.heap.size W1 (W1.alloc (.cells #[.int .i64 ar, .slice none 0 0] 44)) := (Below.refl _ _).alloc (Nat.le_refl _) _
          have AQ0 : Hid (AQ W1.heap.size W4.heap.size ar (.slice none 0 0) [] (W1.alloc (.cells #[.int .i64 ar, .slice none 0 0] 44))) := ⟨World.alloc_heap_new W1 _, World.ownsRow_nil _ _ _ _, by simp [Value.ownBlock], by simp⟩
          have BQ0 := hidd ba2
          have PB2 := hidd ((ba2.block _ (Array.getElem?_eq_some_iff.1 PB1.out).1).trans PB1.out)
          clear ba2
          go_upto_region 26 with fail
          clear p0'
          have p1' : (W1.alloc (.cells #[.int .i64 ar, .slice none 0 0] 44)).cell? ⟨pb, 1, none⟩ = some (.slice pa0 pl pc0) := (cellOf PB2.out).trans rfl
          generalize W1.alloc (.cells #[.int .i64 ar, .slice none 0 0] 44) = W6 at AQ0 BQ0 PB2 p1' ⊢
          go_wp2_with fail
          clear p1'
          have hBQ : W4.heap.size ≤ W1.heap.size := HB1.out.size
          obtain ⟨Q, hQ⟩ : ∃ Q, Q = W1.heap.size := ⟨_, rfl⟩
          rw [← hQ] at AQ0 BQ0 hBQ ⊢
          have HQ := hidd hQ
          clear hQ
          go_loopw [134] (fun ix wr => ∃ (i : Nat) (es : List IE) (ya : Option Addr) (yc : Nat), i ≤ pl ∧ ix = .int .i64 i ∧ es.length ≤ yc ∧ Hid (es.map IE.i = ((pes.map IE.i).take i).map (onI 0 k)) ∧ Hid (Below Q W1 wr) ∧ Hid (AQ Q W4.heap.size ar (.slice ya es.length yc) es wr)) (fun ix _ => pl - (intOf ix).toNat)
          case atStart => exact ⟨0, [], none, 0, Nat.zero_le _, rfl, Nat.le_refl _, (show _ = _ by simp), BQ0.out, AQ0.out⟩
          case round =>
            clear AQ0 BQ0
            obtain ⟨i, es, ya, yc, hi, rfl, hyc, HM3, HB3, HA⟩ := hrel
            by_cases hlk : i < pl
            · obtain ⟨e, he⟩ : ∃ e, pes[i]? = some e := ⟨pes[i]'(by have := HPL.out; omega), List.getElem?_eq_getElem _⟩
              obtain ⟨c, hca, hcl, ic0, _⟩ := PO.out.at he
              have hok := PO.out.2.2 e (List.mem_of_getElem? he)
              simp only at hca
              subst hca
              obtain ⟨x, xq, xc2⟩ := e
              simp only at ic0
              have hcx : (pes.map IE.i)[i]? = some x := by rw [List.getElem?_map, he]; rfl
              have hjb := HJB.out x (List.mem_of_getElem? hcx)
              have HM4 : Hid (es.map IE.i ++ [onI 0 k x] = ((pes.map IE.i).take (i + 1)).map (onI 0 k)) := by
                show _ = _
                rw [HM3.out, take_more hcx, List.map_append]; rfl
              have hel : es.length ≤ 6000 := by
                have h5 := congrArg List.length HM3.out
                simp only [List.length_map, List.length_take] at h5
                omega
              have BW4 : Hid (Below W4.heap.size W4 wr) := HB1.out.trans (HB3.out.mono hBQ)
              have k0 := (BW4.out.cell (p := ⟨c, i * 11, none⟩) hcl).trans ic0.c0
              have k1 := (BW4.out.cell (p := ⟨c, i * 11 + 1, none⟩) hcl).trans ic0.c1
              have k2 := (BW4.out.cell (p := ⟨c, i * 11 + 2, none⟩) hcl).trans ic0.c2
              have k3 := (BW4.out.cell (p := ⟨c, i * 11 + 3, none⟩) hcl).trans ic0.c3
              have k4 := (BW4.out.cell (p := ⟨c, i * 11 + 4, none⟩) hcl).trans ic0.c4
              have k5 := (BW4.out.cell (p := ⟨c, i * 11 + 5, none⟩) hcl).trans ic0.c5
              have k6 := (BW4.out.cell (p := ⟨c, i * 11 + 6, none⟩) hcl).trans ic0.c6
              have k7 := (BW4.out.cell (p := ⟨c, i * 11 + 7, none⟩) hcl).trans ic0.c7
              have k8 := (BW4.out.cell (p := ⟨c, i * 11 + 8, none⟩) hcl).trans ic0.c8
              have k9 := (BW4.out.cell (p := ⟨c, i * 11 + 9, none⟩) hcl).trans ic0.c9
              have k10 := (BW4.out.cell (p := ⟨c, i * 11 + 10, none⟩) hcl).trans ic0.c10
              have HO : Hid (∀ W, Below wr.heap.size wr W → W.ownsRow Q 46 11 (.slice ya es.length yc) es.length (flatI es) ∧ Q ≤ W.heap.size ∧ W.heap[Q]? = some (.cells #[.int .i64 ar, .slice ya es.length yc] 44 (0, 0))) := fun W hb => ⟨own_below HA.out.row hb, by have := HA.out.lt; have := hb.size; omega, (hb.block _ HA.out.lt).trans HA.out.box⟩
              have PUSH : Hid (∀ W v' w' A, Below wr.heap.size wr W → w'.ownsRow Q 46 11 v' (es.length + 1) (flatI es ++ (IE.mk A xq xc2).cells) → W.grownBy w' (Value.slice ya es.length yc).ownBlock → (v'.ownBlock = (Value.slice ya es.length yc).ownBlock ∨ v'.ownBlock = some W.heap.size) → onI 0 k x = A → A.lib = x.lib → A.own = x.own → A.quote = x.quote → ∃ (es' : List IE) (ya' : Option Addr) (yc' : Nat), es'.length = es.length + 1 ∧ v' = .slice ya' es'.length yc' ∧ es'.length ≤ yc' ∧ Hid (w'.heap[Q]? = some (.cells #[.int .i64 ar, .slice ya es.length yc] 44 (0, 0))) ∧ Hid (es'.map IE.i = ((pes.map IE.i).take (i + 1)).map (onI 0 k)) ∧ Hid (Below Q W1 (w'.setCell ⟨Q, 1, none⟩ (.slice ya' es'.length yc'))) ∧ Hid (AQ Q W4.heap.size ar (.slice ya' es'.length yc') es' (w'.setCell ⟨Q, 1, none⟩ (.slice ya' es'.length yc')))) := by
                intro W v' w' A hb ho hg hw hA h1 h2 h3
                obtain ⟨hr2, hb2⟩ := HA.out.push hb hBQ ⟨A, xq, xc2⟩ (by
                  refine IE.Ok.stay (w := W4) ?_ (fun b hb4 => BW4.out.block b hb4) (fun _ h => h)
                  obtain ⟨o1, o2, o3, o4, o5⟩ := hok
                  unfold IE.Ok
                  simp only [h1, h2, h3]
                  exact ⟨o1, o2, o3, o4, o5⟩) ho hg hw
                obtain ⟨ya', yc', hv, hs'⟩ := own_slice hr2.row
                refine ⟨es ++ [⟨A, xq, xc2⟩], ya', yc', by simp, hv, hs', ?_, ?_, by rw [← hv]; exact HB3.out.trans hb2, by rw [← hv]; exact hr2⟩
                · have hq : some Q ≠ (Value.slice ya es.length yc).ownBlock := fun e => HA.out.sep e.symm
                  exact (hg.block Q (Nat.lt_of_lt_of_le HA.out.lt hb.size) hq).trans ((hb.block _ HA.out.lt).trans HA.out.box)
                · show _ = _
                  rw [List.map_append, ← HM4.out, hA]; rfl
              have hq1 : wr.cell? ⟨Q, 1, none⟩ = some (.slice ya es.length yc) := (cellOf HA.out.box).trans rfl
              have hqk : Q < wr.heap.size := HA.out.lt
              clear hok ic0 he hcx HM3 HM4 HA HB3 BW4
              by_cases o7 : x.op = 7
              · have EQ : Hid (onI 0 k x = { x with a := x.a + (k : Int) }) := onI_clos o7
                have f7 : (x.op == 7) = true := by simpa using o7
                have a9 := hjb.2 o7
                have wx : IntKind.i64.wrap (x.a + k) = x.a + k := wrapI (by omega) (by omega)
                clear o7 hjb
                go_wp2_with (at_builtin; refine wpList_row rfl _ _ 42 rfl Q 46 i1 _ 11 128 Try.underlying42 jinf jz0 jz1 jz2 rfl (by decide) (.slice ya es.length yc) es.length (flatI es) rfl (HO.out _ (((Below.refl _ _).alloc (Nat.le_refl _) _).alloc (by simp) _)).1 (some ⟨wr.heap.size + 1, 0, none⟩) 1 1 (IE.mk { x with a := x.a + (k : Int) } xq xc2).cells rfl rfl (Or.inr ⟨wr.heap.size + 1, 0, rfl, alloc2_cells wr _ _ _ _ rfl⟩) (IE.one _) (by unfold maxLen; omega) (by omega) (HO.out _ (((Below.refl _ _).alloc (Nat.le_refl _) _).alloc (by simp) _)).2.1 ?_)
                intro v7 w7 ho7 hg7 hw7
                obtain ⟨es', ya', yc', hl', rfl, hyc', hbx, HM', HB', HR'⟩ := PUSH.out _ v7 w7 _ (((Below.refl _ _).alloc (Nat.le_refl _) _).alloc (by simp) _) ho7 hg7 (by simpa using hw7) EQ.out rfl rfl rfl
                have n7 : w7.cell? ⟨Q, 1, none⟩ = some (.slice ya es.length yc) := (cellOf hbx.out).trans rfl
                have z7 : w7.frozen? ⟨Q, 1, none⟩ = false := by simp [World.frozen?, hbx.out]
                clear hl' ho7 hg7 hw7 EQ PUSH HO hbx hq1 k0 k1 k2 k3 k4 k5 k6 k7 k8 k9 k10
                go_wp2_with fail
                go_roundw
                case rel => exact ⟨i + 1, es', ya', yc', by omega, by go_num, hyc', HM', HB', HR'⟩
                case measure => simp [intOf]; omega
              · have EQ : Hid (onI 0 k x = x) := onI0_else o7
                have f7 : (x.op == 7) = false := by simpa using o7
                clear o7 hjb
                go_wp2_with (at_builtin; refine wpList_row rfl _ _ 42 rfl Q 46 i1 _ 11 128 Try.underlying42 jinf jz0 jz1 jz2 rfl (by decide) (.slice ya es.length yc) es.length (flatI es) rfl (HO.out _ (((Below.refl _ _).alloc (Nat.le_refl _) _).alloc (by simp) _)).1 (some ⟨wr.heap.size + 1, 0, none⟩) 1 1 (IE.mk x xq xc2).cells rfl rfl (Or.inr ⟨wr.heap.size + 1, 0, rfl, alloc2_cells wr _ _ _ _ rfl⟩) (IE.one _) (by unfold maxLen; omega) (by omega) (HO.out _ (((Below.refl _ _).alloc (Nat.le_refl _) _).alloc (by simp) _)).2.1 ?_)
                intro v7 w7 ho7 hg7 hw7
                obtain ⟨es', ya', yc', hl', rfl, hyc', hbx, HM', HB', HR'⟩ := PUSH.out _ v7 w7 _ (((Below.refl _ _).alloc (Nat.le_refl _) _).alloc (by simp) _) ho7 hg7 (by simpa using hw7) EQ.out rfl rfl rfl
                have n7 : w7.cell? ⟨Q, 1, none⟩ = some (.slice ya es.length yc) := (cellOf hbx.out).trans rfl
                have z7 : w7.frozen? ⟨Q, 1, none⟩ = false := by simp [World.frozen?, hbx.out]
                clear hl' ho7 hg7 hw7 EQ PUSH HO hbx hq1 k0 k1 k2 k3 k4 k5 k6 k7 k8 k9 k10
                go_wp2_with fail
                go_roundw
                case rel => exact ⟨i + 1, es', ya', yc', by omega, by go_num, hyc', HM', HB', HR'⟩
                case measure => simp [intOf]; omega
            · obtain rfl : i = pl := by omega
              have HC3 : Hid (es.map IE.i = (pes.map IE.i).map (onI 0 k)) := by
                have h5 := HM3.out
                rw [HPL.out, ← List.length_map (f := IE.i), List.take_length] at h5
                exact h5
              rw [HQ.out] at HB3
              have RPk := hidd (RP1.out.below HB3.out)
              have BW4 : Hid (Below W4.heap.size W4 wr) := HB1.out.trans (HB3.out.mono HB1.out.size)
              have hq0 : wr.cell? ⟨Q, 0, none⟩ = some (.int .i64 ar) := (cellOf HA.out.box).trans rfl
              have hq1 : wr.cell? ⟨Q, 1, none⟩ = some (.slice ya es.length yc) := (cellOf HA.out.box).trans rfl
              have hlt1 : ∀ g, (Value.slice xa ps.length xc).ownBlock = some g → W4.heap.size ≤ g ∧ g < Q := fun g hg => by rw [HQ.out]; exact RP1.out.own.lt g hg
              have ba : Below wr.heap.size wr (wr.alloc (.cells #[.int .i64 ar, .slice ya es.length yc] 44)) := (Below.refl _ _).alloc (Nat.le_refl _) _
              have RPa := hidd (RPk.out.below ba)
              have PEa : Hid ((PE.mk ar es ya yc).Ok (fun b => b < (wr.alloc (.cells #[.int .i64 ar, .slice ya es.length yc] 44)).heap.size ∧ some b ≠ (Value.slice xa ps.length xc).ownBlock) (wr.alloc (.cells #[.int .i64 ar, .slice ya es.length yc] 44))) := by
                refine PE.Ok.stay (w := wr) (HA.out.pe (ok := fun b => b < wr.heap.size ∧ some b ≠ (Value.slice xa ps.length xc).ownBlock) (fun b hb => ⟨Nat.lt_of_lt_of_le hb BW4.out.size, fun e => by have := (hlt1 b e.symm).1; omega⟩) (fun g h1 h2 => ⟨h2, fun e => by have := (hlt1 g e.symm).2; omega⟩)) (fun b hb => ba.block b hb.1) (fun b hb => ⟨by simp; omega, hb.2⟩)
              have BWa : Hid (Below W4.heap.size W4 (wr.alloc (.cells #[.int .i64 ar, .slice ya es.length yc] 44))) := BW4.out.trans (ba.mono BW4.out.size)
              have MPe : Hid ((ps ++ [PE.mk ar es ya yc]).map PE.pro = (⟨0, ca ++ cb.map (onI n k)⟩ :: ta) ++ (tb.take (j + 1)).map (onP k)) := by
                show _ = _
                rw [← HM2.out, List.map_append]
                show _ ++ [PE.pro ⟨ar, es, ya, yc⟩] = _
                unfold PE.pro onP
                simp only [HC3.out]
              clear HB3 HM3 HA ba RPk BW4 hlt1 HC3
              go_wp2_with (at_builtin; refine wpList_row rfl _ _ 25 rfl W4.heap.size 44 i2 _ 2 32 Try.underlying25 linf lz0 lz1 lz2 rfl (by decide) (.slice xa ps.length xc) ps.length (flatP ps) rfl RPa.out.own (some ⟨wr.heap.size, 0, none⟩) 1 1 (flatP [⟨ar, es, ya, yc⟩]) rfl rfl (Or.inr ⟨wr.heap.size, 0, rfl, alloc1_cells wr _ _ _ rfl⟩) (flatP_one _) (by unfold maxLen; omega) (by omega) BWa.out.size ?_)
              intro v9 w9 ho9 hg9 hw9
              have hrp := RPa.out.more (fs := [⟨ar, es, ya, yc⟩]) (v' := v9) (w' := w9) (fun p hp => by simp at hp; subst hp; exact PEa.out) ho9 hg9 (by simpa using hw9)
              have hb9 := BWa.out.trans ((Below.refl W4.heap.size _).grown hg9 BWa.out.size (fun k hk => (RPa.out.own.lt k hk).1))
              obtain ⟨xa', xc', rfl, hxc'⟩ := own_slice hrp.own
              have REL : Hid (Hid ((ps ++ [PE.mk ar es ya yc]).map PE.pro = (⟨0, ca ++ cb.map (onI n k)⟩ :: ta) ++ (tb.take (j + 1)).map (onP k)) ∧ Hid (Below W4.heap.size W4 w9) ∧ Hid (RowP W4.heap.size (.slice xa' (ps ++ [PE.mk ar es ya yc]).length xc') (ps ++ [PE.mk ar es ya yc]) w9)) := ⟨MPe.out, hb9, hrp⟩
              clear ho9 hg9 hw9 hrp hb9 RPa PEa BWa MPe hq0 hq1
              generalize ps ++ [PE.mk ar es ya yc] = ps' at REL hxc' ⊢
              go_wp2_with fail
              go_roundw
              case rel => exact ⟨j + 1, ps', xa', xc', by omega, by go_num, rfl, hxc', REL.out.1, REL.out.2.1, REL.out.2.2⟩
              case measure => simp [intOf]; omega
        · obtain rfl : j = q := by omega
          have HC : Hid (ps3.map PE.pro = ps.map PE.pro) := by
            show _ = _
            rw [HM.out, PS3.out, MA.out.2.2.2.2.2.2.2.1, List.take_length]; rfl
          have x5 := (HB.out.cell (p := ⟨xb, 1, none⟩) X4.out.2).trans X4.out.1
          have hrn := HN3.out
          have SP := hidd (SameProtos_any ra xa rc xc ps3 ps wr (by rw [← hrn]; exact P34.out.lift0 HB.out) HR.out.pn HC.out (by
            have h5 := congrArg List.length PS3.out
            have h6 := MA.out.2.2.2.2.2.1
            simp only [List.length_map, List.length_cons, List.length_append] at h5
            have h7 := MA.out.2.2.2.2.2.2.2.1
            omega) (fun p hp => by
            have h5 : p.pro ∈ ps3.map PE.pro := List.mem_map_of_mem hp
            rw [PS3.out] at h5
            have h6 : p.pro.code.length = p.es.length := by simp [PE.pro]
            rcases List.mem_cons.1 h5 with h5 | h5
            · rw [h5] at h6
              simp only [List.length_append, List.length_map] at h6
              have h7 := MA.out.2.2.2.2.1
              have h8 := MA.out.2.2.2.2.2.2.1
              omega
            · rcases List.mem_append.1 h5 with h5 | h5
              · have := J2.out _ h5
                omega
              · obtain ⟨p', hp', e⟩ := List.mem_map.1 h5
                have h9 := (MA.out.2.2.2.2.2.2.2.2.2.1 p' hp').1
                rw [← e] at h6
                simp only [onP, List.length_map] at h6
                omega) (by rw [← hrn]; exact hrc) hxc)
          rw [← hrn] at SP
          have HBe : Hid (Below w.heap.size w wr) := HB4.out.trans (HB.out.mono HB4.out.size)
          clear HB HR HM HC hrn
          go_wp2_with fail
          refine SP.out.mono ?_
          rintro e we ⟨rfl, hbe⟩
          go_wp2_with fail
          go_ret
          exact ⟨rfl, HBe.out.trans (hbe.mono HBe.out.size)⟩
  
end Go.Proofs.Ytbbmdhkbndgdkaa
