/- Chapter 3's laws: LibFiles, walked. -/
import Derived.Test.YtonafbennobgdaaGreatDoorK48
import Derived.Test.YtonafbennobgdaaGreatDoorK34
import Derived.Test.YtonafbennobgdaaGreatDoorK34
import Derived.Test.YtonafbennobgdaaGreatDoorK31
namespace Go.Proofs.YtonafbennobgdaaGreatDoor
set_option linter.unusedVariables false
set_option linter.unusedSimpArgs false
open Go.RowKit

theorem Read_q (s : ByteArray) (w : World) (hs : s.size ≤ maxLen) : Calls Tryz.prog 17 #[.string s] w fun e w' => Below w.heap.size w w' ∧ match readL s.data.toList with
    | .inl x => e = .returned (.tuple #[.slice none 0 0, fv x])
    | .inr ks => ks.length ≤ 2000 ∧ ∃ a cap f, e = .returned (.tuple #[.slice a ks.length cap, fv (0, 0)]) ∧ Dc (fun b => b < w'.heap.size) w' f a ks := by
  refine (Read_row s w hs).mono fun e w' h => ?_
  obtain ⟨hb, h⟩ := h
  refine ⟨hb, ?_⟩
  cases hr : readL s.data.toList with
  | inl x => rw [hr] at h; exact h
  | inr ks =>
    rw [hr] at h
    obtain ⟨v, es, rfl, hes, hl, B, hB, hrow⟩ := h
    obtain ⟨a, cap, f, hv, hd⟩ := hrow.lie (by omega)
    rw [hes] at hv hd
    subst hv
    refine ⟨by rw [← hes, List.length_map]; exact hl, a, cap, f, rfl, Dc.stay (fun _ _ => rfl) (fun k hk => hk.2) _ _ _ (Dw.dc _ _ _ _ hd)⟩
theorem field_faultL (x y : Int) (w : World) : (Instr.field 40 (.agg #[.int .i64 x, .int .i64 y]) 0).run Tryz.prog w = .ok (.int .i64 x) w := by
  simp [Instr.field, run_underlying Tryz.underlying40, go_sem, asAgg]
/-- A row of one's own, one datum behind it, and the list of all. -/
theorem lib_row {W1 W : World} {B : Nat} {v : Value} {fs : List (Dat × Option Addr × Nat)} (hv : RowD B v fs W1) (hb : Below W1.heap.size W1 W) : RowD B v fs W := hv.below hb

/-- Blocks that are below P, or not below Q. -/
def OKP (P Q : Nat) (W : World) (k : Nat) : Prop := (k < P ∨ Q ≤ k) ∧ k < W.heap.size
def ToldPQ (P Q : Nat) (d : Dat) (w : World) (e : Ending) (w' : World) : Prop := Below w.heap.size w w' ∧ ∃ a cap f, e = .returned (dv d a cap) ∧ d.kids.length ≤ cap ∧ Dc (OKP P Q w') w' f a d.kids
theorem wclP (P Q : Nat) (s : ByteArray) (l : List Dat) (a : Option Addr) (cap F : Nat) (W : World) (hs : s.size ≤ maxLen) (hd : Dc (OKP P Q W) W F a l) (hl : l.length ≤ 10000000) (hQ : Q ≤ W.heap.size) :
    Calls Tryz.prog 19 #[.string s, .slice a l.length cap] W (ToldPQ P Q (liD (syD s :: l)) W) := by
  refine (wcl2_any s l a cap F (OKP P Q W) W hs hd (fun k hk => hk.2) hl).mono fun e w' h => ?_
  obtain ⟨hb, a', c', f, he, hc, hdd⟩ := h
  refine ⟨hb, a', c', f, he, hc, Dc.stay (fun _ _ => rfl) (fun k hk => ?_) _ _ _ hdd⟩
  rcases hk with hk | hk
  · exact ⟨hk.1, Nat.lt_of_lt_of_le hk.2 hb.size⟩
  · exact ⟨Or.inr (Nat.le_trans hQ hk.1), hk.2⟩
theorem madeP (P Q : Nat) (W : World) (es : List (Dat × Option Addr × Nat)) (hl : es.length ≤ 100) (hQ : Q ≤ W.heap.size) (h : ∀ e ∈ es, e.1.name.size ≤ maxLen ∧ e.1.kids.length ≤ e.2.2 ∧ ∃ f, Dc (OKP P Q W) W f e.2.1 e.1.kids) :
    ∃ f, Dc (OKP P Q (W.alloc (.cells (flat es).toArray 26))) (W.alloc (.cells (flat es).toArray 26)) f (some ⟨W.heap.size, 0, none⟩) (es.map (·.1)) := by
  have hr := RowD.made W es (by simp [maxLen]; omega) (fun e he => by
    obtain ⟨h1, h2, f, h3⟩ := h e he
    exact ⟨h1, h2, f, Dc.stay (fun _ _ => rfl) (fun k hk => hk.2) _ _ _ h3⟩)
  obtain ⟨a, cap, f, hv, hc, hd⟩ := hr.lieG (by omega) (OKP P Q (W.alloc (.cells (flat es).toArray 26))) (fun g hg => by
    have h1 := (hr.own.lt g hg)
    exact ⟨Or.inr (Nat.le_trans hQ h1.1), h1.2⟩) (fun e he => by
    obtain ⟨h1, h2, f, h3⟩ := h e he
    exact ⟨f, Dc.stay (fun k hk => Below.heap_alloc _ _ _ hk.2) (fun k hk => ⟨hk.1, by simp; exact Nat.lt_succ_of_lt hk.2⟩) _ _ _ h3⟩)
  simp at hv
  rw [hv.1]
  exact ⟨f, hd⟩
theorem OKP.lift {P Q : Nat} {w w' : World} {f : Nat} {a : Option Addr} {l : List Dat} (h : Dc (OKP P Q w) w f a l) (hb : Below w.heap.size w w') : Dc (OKP P Q w') w' f a l :=
  Dc.stay (fun k hk => hb.block k hk.2) (fun k hk => ⟨hk.1, Nat.lt_of_lt_of_le hk.2 hb.size⟩) _ _ _ h
set_option maxRecDepth 100000 in
set_option maxHeartbeats 12800000 in
theorem LibFiles_walk (hd : List Dat) (nm s : ByteArray) (ah : Option Addr) (ch Fh : Nat) (w : World) (h0 : 0 < w.heap.size) (ht : TabW w) (hh : Dn w Fh ah hd) (hhb : hd.length * 72 ≤ reachBytes) (hnm : nm.size ≤ maxLen) (hs : s.size ≤ maxLen) :
    Calls Tryz.prog 6 #[.slice ah hd.length ch, .string nm, .string s] w fun e w' => e = .returned (.bool true) ∧ Below w.heap.size w w' := by
  have AL := hidd (alive_any w ht h0)
  have RD : Hid (∀ W, Calls Tryz.prog 17 #[.string s] W fun e w' => Below W.heap.size W w' ∧ match readL s.data.toList with
    | .inl x => e = .returned (.tuple #[.slice none 0 0, fv x])
    | .inr ks => ks.length ≤ 2000 ∧ ∃ a cap f, e = .returned (.tuple #[.slice a ks.length cap, fv (0, 0)]) ∧ Dc (fun b => b < w'.heap.size) w' f a ks) := fun W => Read_q s W hs
  have NM : Hid (∀ W, Calls Tryz.prog 18 #[.string nm] W fun e w' => e = .returned (.bool (namedB nm)) ∧ w' = W) := fun W => Named_any nm hnm W
  have HT : Hid (∀ W, Below w.heap.size w W → TabW W ∧ 0 < W.heap.size) := fun W hb => ⟨ht.below hb h0, Nat.lt_of_lt_of_le h0 hb.size⟩
  have HH := hidd hh
  have HB := hidd hhb
  have HS := hidd (And.intro hnm hs)
  obtain ⟨nh, hn⟩ : ∃ n, n = hd.length := ⟨_, rfl⟩
  rw [← hn]
  have NH := hidd hn
  clear h0 ht hh hhb hnm hs hn
  go_enter Tryz.func6, Tryz.ntmps6
  go_wp2_with fail
  refine AL.out.mono ?_
  rintro e v0 ⟨rfl, hb0⟩
  have B0 := hidd hb0
  clear hb0 AL
  go_wp2_with fail
  refine (RD.out v0).mono ?_
  cases hr : readL s.data.toList with
  | inl x =>
    rintro e v1 ⟨hb1, rfl⟩
    have hx := read_err hr
    have B1 : Hid (Below w.heap.size w v1) := B0.out.trans (hb1.mono B0.out.size)
    obtain ⟨x1, x2⟩ := x
    simp only at hx
    have g1 : decide (x1 = 0) = false := by simp [hx]
    have g2 : (x1 == 0) = false := by simp [hx]
    have g3 : (x1 != 0) = true := by simp [hx]
    clear hb1 hr RD
    unfold fv
    simp only
    go_wp2_with fail
    go_ret
    exact ⟨rfl, B1.out.alloc B1.out.size _⟩
  | inr ks =>
    rintro e v1 ⟨hb1, hkl, ka, kc, kf, rfl, hkd⟩
    have B1 : Hid (Below w.heap.size w v1) := B0.out.trans (hb1.mono B0.out.size)
    have KL := hidd hkl
    have KD := hidd hkd
    have KR := hidd hr
    obtain ⟨nk, hnk⟩ : ∃ n, n = ks.length := ⟨_, rfl⟩
    rw [← hnk]
    have NK := hidd hnk
    clear hb1 hkl hkd hr hnk RD B0
    obtain ⟨V, hV⟩ : ∃ V, V = v1.alloc (.cells #[.int .i64 0, .int .i64 0] 40) := ⟨_, rfl⟩
    have bV : Below v1.heap.size v1 V := by rw [hV]; exact (Below.refl _ _).alloc (Nat.le_refl _) _
    have xV : V.heap[v1.heap.size]? = some (.cells #[.int .i64 0, .int .i64 0] 40 (0, 0)) := by rw [hV]; exact World.alloc_heap_new v1 _
    have BV : Hid (Below w.heap.size w V ∧ Below v1.heap.size v1 V) := ⟨B1.out.trans (bV.mono B1.out.size), bV⟩
    have e0 : V.cell? ⟨v1.heap.size, 0, none⟩ = some _ := (cellO xV).trans rfl
    have QV := hidd hV.symm
    clear hV bV xV B1
    unfold fv
    simp only
    go_wp2_with fail
    rw [QV.out]
    clear QV
    refine (NM.out _).mono ?_
    rintro e W ⟨rfl, hWV⟩
    rw [hWV]
    clear hWV W
    cases hq : namedB nm with
    | false =>
      go_wp2_with fail
      go_ret
      exact ⟨rfl, BV.out.1⟩
    | true =>
      have HN := hidd hq
      clear hq
      by_cases c0 : nh = 0
      · subst c0
        go_wp2_with fail
        go_ret
        exact ⟨rfl, BV.out.1⟩
      by_cases c2 : 2 ≤ nh
      · have HC : Hid (hd ≠ [] ∧ (2 ≤ hd.length ∨ ∃ y, hd = [y] ∧ y.name = bProgram)) := by
          have := NH.out
          exact ⟨by rintro rfl; simp at this; omega, Or.inl (by omega)⟩
        have i1 : ¬ (nh : Int) < 2 := by omega
        have i2 : decide ((nh : Int) < 2) = false := by simp; omega
        clear c0 c2
        clear e0
        have FV : Hid (Below V.heap.size V (V.alloc (.cells #[.string nm, .string s] 49)) ∧ (V.alloc (.cells #[.string nm, .string s] 49)).heap[V.heap.size]? = some (.cells #[.string nm, .string s] 49 (0, 0))) := ⟨(Below.refl _ _).alloc (Nat.le_refl _) _, World.alloc_heap_new V _⟩
        have FW : Hid (Below V.heap.size V ((V.alloc (.cells #[.string nm, .string s] 49)).alloc (.cells #[] 26)) ∧ Below w.heap.size w ((V.alloc (.cells #[.string nm, .string s] 49)).alloc (.cells #[] 26))) := by
          have h1 : Below V.heap.size V ((V.alloc (.cells #[.string nm, .string s] 49)).alloc (.cells #[] 26)) := FV.out.1.alloc FV.out.1.size _
          exact ⟨h1, BV.out.1.trans (h1.mono BV.out.1.size)⟩
        have RF : Hid (RowD (V.heap.size + 1) (.slice (some ⟨V.heap.size + 1, 0, none⟩) 0 0) [] ((V.alloc (.cells #[.string nm, .string s] 49)).alloc (.cells #[] 26))) := by
          have := RowD.fresh (V.alloc (.cells #[.string nm, .string s] 49))
          show RowD (V.heap.size + 1) _ [] _
          simpa using this
        go_wp2_with (at_builtin; refine wpList_rowX rfl _ _ rfl (B := V.heap.size + 1) (v := .slice (some ⟨V.heap.size + 1, 0, none⟩) 0 0) (es := []) (by exact RF.out) (ok := fun k => k < w.heap.size) (F := Fh) (a := ah) (l := hd) (cap := ch) rfl (by rw [← NH.out]; rfl) (Dc.stay (fun k hk => FW.out.2.block k hk) (fun _ h => h) _ _ _ HH.out) (fun k hk => ⟨Nat.lt_of_lt_of_le hk FW.out.2.size, fun e => by have h1 := BV.out.1.size; have h3 : k = V.heap.size + 1 := (by simpa [Value.ownBlock] using e); omega⟩) (by simp) (by have h1 := HB.out; have h2 : reachBytes < 140737488355328 - 4000 := (by unfold reachBytes; decide); simp; omega) ?_)
        intro v2 w1 fs hfs hr1 hb1 hkf1 hwo1
        have G1 : Hid (Below w.heap.size w w1 ∧ Below v1.heap.size v1 w1 ∧ V.heap.size + 1 ≤ w1.heap.size ∧ w1.heap[V.heap.size]? = some (.cells #[.string nm, .string s] 49 (0, 0))) := by
          have hx : Below (V.heap.size + 1) (V.alloc (.cells #[.string nm, .string s] 49)) ((V.alloc (.cells #[.string nm, .string s] 49)).alloc (.cells #[] 26)) := by
            have := ((Below.refl _ _).alloc (Nat.le_refl _) _ : Below (V.alloc (.cells #[.string nm, .string s] 49)).heap.size (V.alloc (.cells #[.string nm, .string s] 49)) ((V.alloc (.cells #[.string nm, .string s] 49)).alloc (.cells #[] 26)))
            simpa using this
          have h2 : Below (V.heap.size + 1) (V.alloc (.cells #[.string nm, .string s] 49)) w1 := hx.trans hb1
          have h3 : Below V.heap.size V w1 := FV.out.1.trans (h2.mono (by omega))
          refine ⟨BV.out.1.trans (h3.mono BV.out.1.size), BV.out.2.trans (h3.mono BV.out.2.size), by have := h2.size; simpa using this, (h2.block _ (by omega)).trans FV.out.2⟩
        have R1 : Hid (RowD (V.heap.size + 1) v2 fs w1 ∧ fs.map (·.1) = hd ∧ ∀ k, v2.ownBlock = some k → V.heap.size + 1 ≤ k ∧ k < w1.heap.size) := ⟨hr1, hfs, fun k hk => ⟨(hr1.own.lt k hk).1, (hr1.own.lt k hk).2⟩⟩
        clear hr1 hb1 hkf1 hwo1 hfs RF FW FV
        go_wp2_with fail
        refine (Sym_any nm w1).mono ?_
        rintro e w2 ⟨rfl, hb2⟩
        have G2 : Hid (Below w1.heap.size w1 w2) := hb2
        obtain ⟨D0, hD0⟩ : ∃ D0, D0 = syD nm := ⟨_, rfl⟩
        rw [← hD0]
        have HD0 := hidd hD0
        have M0 : Hid (∃ f, Dc (OKP v1.heap.size w1.heap.size (w2.alloc (.cells #[.int .i64 D0.kind, .int .i64 D0.n, .string D0.name, .int .i64 D0.stamp, .int .i64 D0.lib, .slice none D0.kids.length 0] 26))) (w2.alloc (.cells #[.int .i64 D0.kind, .int .i64 D0.n, .string D0.name, .int .i64 D0.stamp, .int .i64 D0.lib, .slice none D0.kids.length 0] 26)) f (some ⟨w2.heap.size, 0, none⟩) [D0]) := madeP _ _ w2 [(D0, none, 0)] (by simp) hb2.size (by
          intro e he
          simp at he
          subst he
          rw [hD0]
          exact ⟨HS.out.1, Nat.le_refl 0, 0, rfl⟩)
        have W19 : Hid (Calls Tryz.prog 19 #[.string bInclude, .slice (some ⟨w2.heap.size, 0, none⟩) 1 1] (w2.alloc (.cells #[.int .i64 D0.kind, .int .i64 D0.n, .string D0.name, .int .i64 D0.stamp, .int .i64 D0.lib, .slice none D0.kids.length 0] 26)) (ToldPQ v1.heap.size w1.heap.size (liD [syD bInclude, D0]) (w2.alloc (.cells #[.int .i64 D0.kind, .int .i64 D0.n, .string D0.name, .int .i64 D0.stamp, .int .i64 D0.lib, .slice none D0.kids.length 0] 26)))) := by
          obtain ⟨f, hf⟩ := M0.out
          exact wclP _ _ bInclude [D0] _ 1 f _ (by decide) hf (by simp) (by have := hb2.size; simp; omega)
        obtain ⟨D1, hD1⟩ : ∃ D1, D1 = liD [syD bInclude, D0] := ⟨_, rfl⟩
        rw [← hD1] at W19
        have HD1 := hidd hD1
        have N1 : Hid (D1.name.size ≤ maxLen) := by rw [hD1]; exact Nat.zero_le _
        clear hb2 hD0 hD1 M0
        unfold dv
        go_wp2_with fail
        refine W19.out.mono ?_
        rintro e w3 ⟨hb3, da1, dc1, df1, rfl, hdc1, hdd1⟩
        have G3 : Hid (Below w1.heap.size w1 w3 ∧ Below w1.heap.size w1 (w3.alloc (.cells #[.int .i64 D1.kind, .int .i64 D1.n, .string D1.name, .int .i64 D1.stamp, .int .i64 D1.lib, .slice da1 D1.kids.length dc1] 26))) := by
          have h1 : Below w2.heap.size w2 w3 := ((Below.refl _ _).alloc (Nat.le_refl _) _).trans (hb3.mono (by simp))
          have h2 : Below w1.heap.size w1 w3 := G2.out.trans (h1.mono G2.out.size)
          exact ⟨h2, h2.alloc h2.size _⟩
        have M1 : Hid (∃ f, Dc (OKP v1.heap.size w1.heap.size (w3.alloc (.cells #[.int .i64 D1.kind, .int .i64 D1.n, .string D1.name, .int .i64 D1.stamp, .int .i64 D1.lib, .slice da1 D1.kids.length dc1] 26))) (w3.alloc (.cells #[.int .i64 D1.kind, .int .i64 D1.n, .string D1.name, .int .i64 D1.stamp, .int .i64 D1.lib, .slice da1 D1.kids.length dc1] 26)) f (some ⟨w3.heap.size, 0, none⟩) [D1]) := madeP _ _ w3 [(D1, da1, dc1)] (by simp) G3.out.1.size (by
          intro e he
          simp at he
          subst he
          exact ⟨N1.out, hdc1, df1, hdd1⟩)
        obtain ⟨mf1, hm1⟩ := M1.out
        obtain ⟨l1, hl1⟩ : ∃ l1, l1 = [D1] := ⟨_, rfl⟩
        rw [← hl1] at hm1
        have MF1 := hidd hm1
        have HL1 := hidd hl1
        clear hb3 hdc1 hdd1 hm1 hl1 M1 W19 G2
        unfold dv
        go_wp2_with (at_builtin; refine wpList_rowX rfl _ _ rfl (B := V.heap.size + 1) (v := v2) (es := fs) (by exact R1.out.1.below G3.out.2) (ok := OKP v1.heap.size w1.heap.size (w3.alloc (.cells #[.int .i64 D1.kind, .int .i64 D1.n, .string D1.name, .int .i64 D1.stamp, .int .i64 D1.lib, .slice da1 D1.kids.length dc1] 26))) (F := mf1) (a := some ⟨w3.heap.size, 0, none⟩) (l := l1) (cap := 1) rfl (by rw [HL1.out]; rfl) MF1.out (fun k hk => ⟨hk.2, fun e => by have h1 := R1.out.2.2 k e.symm; have h2 := BV.out.2.size; have h3 := hk.1; omega⟩) (Nat.le_trans G1.out.2.2.1 G3.out.2.size) (by have h0 := congrArg List.length R1.out.2.1; rw [List.length_map] at h0; have h1 := HB.out; have h2 : reachBytes < 140737488355328 - 4000 := (by unfold reachBytes; decide); rw [HL1.out]; simp; omega) ?_)
        intro v3 w4 gs hgs hr4 hb4 hkf4 hwo4
        obtain ⟨va, vc, vf, hva, hvc, hdd⟩ := hr4.lieN (by have h0 := congrArg List.length R1.out.2.1; have h4 := congrArg List.length hgs; rw [List.length_map] at h0 h4; have h1 := HB.out; have h2 : reachBytes < 140737488355328 - 4000 := (by unfold reachBytes; decide); rw [List.length_append, h0, h4, HL1.out]; simp; omega)
        have hmp : List.map (fun x : Dat × Option Addr × Nat => x.1) (fs ++ gs) = hd ++ [D1] := by rw [List.map_append, R1.out.2.1, hgs, HL1.out]
        rw [hmp] at hva hvc hdd
        subst hva
        have G4 : Hid (Below w.heap.size w w4 ∧ Below v1.heap.size v1 w4 ∧ w4.heap[V.heap.size]? = some (.cells #[.string nm, .string s] 49 (0, 0))) := by
          have h1 : Below (V.heap.size + 1) w1 w4 := (G3.out.2.mono G1.out.2.2.1).trans hb4
          have hs1 := BV.out.1.size
          have hs2 := BV.out.2.size
          exact ⟨G1.out.1.trans (h1.mono (by omega)), G1.out.2.1.trans (h1.mono (by omega)), (h1.block _ (by omega)).trans G1.out.2.2.2⟩
        obtain ⟨m, hm⟩ : ∃ m, m = (hd ++ [D1]).length := ⟨_, rfl⟩
        have LI := hidd (List_any (hd ++ [D1]) va vc w4)
        have HQ : Hid ((hd ++ [D1]).length ≤ vc ∧ Dn w4 vf va (hd ++ [D1])) := ⟨hvc, hdd⟩
        rw [← hm] at LI ⊢
        clear hr4 hb4 hkf4 hwo4 hgs hvc hdd hmp hm R1 G1 G3 MF1
        go_wp2_with fail
        refine LI.out.mono ?_
        rintro e w5 ⟨rfl, hb5⟩
        have G5 : Hid (Below w.heap.size w w5 ∧ Below v1.heap.size v1 w5 ∧ w5.heap[V.heap.size]? = some (.cells #[.string nm, .string s] 49 (0, 0))) := ⟨G4.out.1.trans (hb5.mono G4.out.1.size), G4.out.2.1.trans (hb5.mono G4.out.2.1.size), (hb5.block _ (Array.getElem?_eq_some_iff.1 G4.out.2.2).1).trans G4.out.2.2⟩
        have P9 : Hid (Calls Tryz.prog 9 #[.slice (some ⟨V.heap.size, 0, none⟩) 1 1, .slice none 0 0, .slice none 0 0, dv (liD (hd ++ [D1])) va vc] w5 (ToldQ (parseF ⟨[(nm, s)], [], []⟩ (liD (hd ++ [D1]))) w5)) :=
          (Parse_any w5.heap.size vf ⟨[(nm, s)], [], []⟩ _ _ _ (liD (hd ++ [D1])) va vc w5 (Nat.le_refl _) (HT.out _ G5.out.1).2 ⟨⟨_, 1, rfl, Or.inr ⟨V.heap.size, 0, rfl, (Array.getElem?_eq_some_iff.1 G5.out.2.2).1, fun j p hj => by
            match j, hj with
            | 0, hj =>
              obtain rfl := Option.some.inj hj
              exact ⟨(cellO G5.out.2.2).trans rfl, (cellO G5.out.2.2).trans rfl, HS.out.2⟩
            | j + 1, hj => simp at hj⟩⟩, SV.nil _ _, SV.nil _ _, by simp, by simp, by simp⟩ (HT.out _ G5.out.1).1 (HQ.out.2.lift hb5) HQ.out.1 (Nat.zero_le _)).mono fun _ _ h => h.q
        obtain ⟨r1, hr1⟩ : ∃ r1, r1 = parseF ⟨[(nm, s)], [], []⟩ (liD (hd ++ [D1])) := ⟨_, rfl⟩
        rw [← hr1] at P9
        have HR1 : Hid (r1 = parseF ⟨[(nm, s)], [], []⟩ (liD (hd ++ [liD [syD bInclude, syD nm]]))) := by rw [← HD0.out, ← HD1.out]; exact hr1
        have MU1 : Hid (Inv (libOf r1) ∧ seOkL (libOf r1).imports) := by rw [hr1]; exact libOf_much _ _
        generalize liD (hd ++ [D1]) = DQ at P9 ⊢
        clear hr1 hb5 LI HQ G4
        unfold dv at P9 ⊢
        go_wp2_with fail
        refine P9.out.mono ?_
        rintro e w6 ⟨hb6, ea1, nx1, ec1, ia1, ni1, ic1, ba1, nb1, bc1, rfl, hlm1⟩
        obtain ⟨W7, hW7⟩ : ∃ W7, W7 = w6.alloc (.cells #[.string (libOf r1).name, .slice ea1 nx1 ec1, .slice ia1 ni1 ic1, .slice ba1 nb1 bc1] 30) := ⟨_, rfl⟩
        have b7 : Below w6.heap.size w6 W7 := by rw [hW7]; exact (Below.refl _ _).alloc (Nat.le_refl _) _
        have b67 : Below w5.heap.size w5 W7 := hb6.trans (b7.mono hb6.size)
        have G7 : Hid (Below w.heap.size w W7 ∧ Below v1.heap.size v1 W7) := ⟨G5.out.1.trans (b67.mono G5.out.1.size), G5.out.2.1.trans (b67.mono G5.out.2.1.size)⟩
        have XX7 : Hid (W7.heap[w6.heap.size]? = some (.cells #[.string (libOf r1).name, .slice ea1 nx1 ec1, .slice ia1 ni1 ic1, .slice ba1 nb1 bc1] 30 (0, 0))) := by show _ = _; rw [hW7]; exact World.alloc_heap_new w6 _
        have L7 : Hid (LibM (fun k => k < W7.heap.size) (libOf r1) (.slice ea1 nx1 ec1) (.slice ia1 ni1 ic1) (.slice ba1 nb1 bc1) W7) := hlm1.stay (fun k hk => b7.block k hk.2) (fun k hk => Nat.lt_of_lt_of_le hk.2 b7.size)
        have Q7 := hidd hW7.symm
        have FW : Hid (Below W7.heap.size W7 (W7.alloc (.cells #[] 26)) ∧ Below w.heap.size w (W7.alloc (.cells #[] 26))) := ⟨(Below.refl _ _).alloc (Nat.le_refl _) _, G7.out.1.alloc G7.out.1.size _⟩
        have RF := hidd (RowD.fresh W7)
        clear hb6 hlm1 hW7 b7 b67 P9 G5
        go_upto_region 8 with fail
        rw [Q7.out]
        clear Q7
        go_wp2_with (at_builtin; refine wpList_rowX rfl _ _ rfl (B := W7.heap.size) (v := .slice (some ⟨W7.heap.size, 0, none⟩) 0 0) (es := []) (by exact RF.out) (ok := fun k => k < w.heap.size) (F := Fh) (a := ah) (l := hd) (cap := ch) rfl (by rw [← NH.out]; rfl) (Dc.stay (fun k hk => FW.out.2.block k hk) (fun _ h => h) _ _ _ HH.out) (fun k hk => ⟨Nat.lt_of_lt_of_le hk FW.out.2.size, fun e => by have h1 := G7.out.1.size; have h3 : k = W7.heap.size := (by simpa [Value.ownBlock] using e); omega⟩) FW.out.1.size (by have h1 := HB.out; have h2 : reachBytes < 140737488355328 - 4000 := (by unfold reachBytes; decide); simp; omega) ?_)
        intro v4 u1 fs2 hfs hr1 hb1 hkf1 hwo1
        have U1 : Hid (Below W7.heap.size W7 u1) := FW.out.1.trans hb1
        have R1 : Hid (RowD W7.heap.size v4 fs2 u1 ∧ fs2.map (·.1) = hd ∧ ∀ k, v4.ownBlock = some k → W7.heap.size ≤ k ∧ k < u1.heap.size) := ⟨hr1, hfs, fun k hk => ⟨(hr1.own.lt k hk).1, (hr1.own.lt k hk).2⟩⟩
        have K1 : Hid (Below v1.heap.size v1 u1) := G7.out.2.trans (U1.out.mono G7.out.2.size)
        clear hr1 hb1 hkf1 hwo1 hfs RF FW
        have W19 : Hid (Calls Tryz.prog 19 #[.string bBegin, .slice ka nk kc] u1 (ToldPQ v1.heap.size u1.heap.size (liD (syD bBegin :: ks)) u1)) := by
          have := wclP v1.heap.size u1.heap.size bBegin ks ka kc kf u1 (by decide) (Dc.stay (fun k hk => K1.out.block k hk) (fun k hk => ⟨Or.inl hk, Nat.lt_of_lt_of_le hk K1.out.size⟩) _ _ _ KD.out) (by have := KL.out; omega) (Nat.le_refl _)
          rw [← NK.out] at this
          exact this
        obtain ⟨D2, hD2⟩ : ∃ D2, D2 = liD (syD bBegin :: ks) := ⟨_, rfl⟩
        rw [← hD2] at W19
        have HD2 := hidd hD2
        have N2 : Hid (D2.name.size ≤ maxLen) := by rw [hD2]; exact Nat.zero_le _
        clear hD2
        go_wp2_with fail
        refine W19.out.mono ?_
        rintro e u2 ⟨hb3, da1, dc1, df1, rfl, hdc1, hdd1⟩
        have G3 : Hid (Below u1.heap.size u1 u2 ∧ Below u1.heap.size u1 (u2.alloc (.cells #[.int .i64 D2.kind, .int .i64 D2.n, .string D2.name, .int .i64 D2.stamp, .int .i64 D2.lib, .slice da1 D2.kids.length dc1] 26))) := ⟨hb3, hb3.alloc hb3.size _⟩
        have M1 : Hid (∃ f, Dc (OKP v1.heap.size u1.heap.size (u2.alloc (.cells #[.int .i64 D2.kind, .int .i64 D2.n, .string D2.name, .int .i64 D2.stamp, .int .i64 D2.lib, .slice da1 D2.kids.length dc1] 26))) (u2.alloc (.cells #[.int .i64 D2.kind, .int .i64 D2.n, .string D2.name, .int .i64 D2.stamp, .int .i64 D2.lib, .slice da1 D2.kids.length dc1] 26)) f (some ⟨u2.heap.size, 0, none⟩) [D2]) := madeP _ _ u2 [(D2, da1, dc1)] (by simp) G3.out.1.size (by
          intro e he
          simp at he
          subst he
          exact ⟨N2.out, hdc1, df1, hdd1⟩)
        obtain ⟨mf1, hm1⟩ := M1.out
        obtain ⟨l2, hl1⟩ : ∃ l1, l1 = [D2] := ⟨_, rfl⟩
        rw [← hl1] at hm1
        have MF1 := hidd hm1
        have HL2 := hidd hl1
        clear hb3 hdc1 hdd1 hm1 hl1 M1 W19
        unfold dv
        go_wp2_with (at_builtin; refine wpList_rowX rfl _ _ rfl (B := W7.heap.size) (v := v4) (es := fs2) (by exact R1.out.1.below G3.out.2) (ok := OKP v1.heap.size u1.heap.size (u2.alloc (.cells #[.int .i64 D2.kind, .int .i64 D2.n, .string D2.name, .int .i64 D2.stamp, .int .i64 D2.lib, .slice da1 D2.kids.length dc1] 26))) (F := mf1) (a := some ⟨u2.heap.size, 0, none⟩) (l := l2) (cap := 1) rfl (by rw [HL2.out]; rfl) MF1.out (fun k hk => ⟨hk.2, fun e => by have h1 := R1.out.2.2 k e.symm; have h2 := G7.out.2.size; have h3 := hk.1; omega⟩) (Nat.le_trans U1.out.size G3.out.2.size) (by have h0 := congrArg List.length R1.out.2.1; rw [List.length_map] at h0; have h1 := HB.out; have h2 : reachBytes < 140737488355328 - 4000 := (by unfold reachBytes; decide); rw [HL2.out]; simp; omega) ?_)
        intro v5 u3 gs hgs hr4 hb4 hkf4 hwo4
        obtain ⟨va, vc, vf, hva, hvc, hdd⟩ := hr4.lieN (by have h0 := congrArg List.length R1.out.2.1; have h4 := congrArg List.length hgs; rw [List.length_map] at h0 h4; have h1 := HB.out; have h2 : reachBytes < 140737488355328 - 4000 := (by unfold reachBytes; decide); rw [List.length_append, h0, h4, HL2.out]; simp; omega)
        have hmp : List.map (fun x : Dat × Option Addr × Nat => x.1) (fs2 ++ gs) = hd ++ [D2] := by rw [List.map_append, R1.out.2.1, hgs, HL2.out]
        rw [hmp] at hva hvc hdd
        subst hva
        have U3 : Hid (Below W7.heap.size W7 u3) := U1.out.trans ((G3.out.2.mono U1.out.size).trans hb4)
        obtain ⟨m, hm⟩ : ∃ m, m = (hd ++ [D2]).length := ⟨_, rfl⟩
        have LI := hidd (List_any (hd ++ [D2]) va vc u3)
        have HQ : Hid ((hd ++ [D2]).length ≤ vc ∧ Dn u3 vf va (hd ++ [D2])) := ⟨hvc, hdd⟩
        rw [← hm] at LI ⊢
        clear hr4 hb4 hkf4 hwo4 hgs hvc hdd hmp hm R1 G3 MF1 U1 K1
        go_wp2_with fail
        refine LI.out.mono ?_
        rintro e u4 ⟨rfl, hb5⟩
        have U4 : Hid (Below W7.heap.size W7 u4) := U3.out.trans (hb5.mono U3.out.size)
        have P9 : Hid (Calls Tryz.prog 9 #[.slice none 0 0, .slice none 0 0, .slice none 0 0, dv (liD (hd ++ [D2])) va vc] u4 (ToldQ (parseF ⟨[], [], []⟩ (liD (hd ++ [D2]))) u4)) := by
          have hw := G7.out.1.trans (U4.out.mono G7.out.1.size)
          exact (Parse_any u4.heap.size vf ⟨[], [], []⟩ _ _ _ (liD (hd ++ [D2])) va vc u4 (Nat.le_refl _) (HT.out _ hw).2 ⟨⟨none, 0, rfl, Or.inl rfl⟩, SV.nil _ _, SV.nil _ _, by simp, by simp, by simp⟩ (HT.out _ hw).1 (HQ.out.2.lift hb5) HQ.out.1 (Nat.zero_le _)).mono fun _ _ h => h.q
        obtain ⟨r2, hr2⟩ : ∃ r2, r2 = parseF ⟨[], [], []⟩ (liD (hd ++ [D2])) := ⟨_, rfl⟩
        rw [← hr2] at P9
        have SP : Hid ((wrong [liD [syD ⟨#[120]⟩, D2]]).1 = 0 → r2 = .no 6 ∨ r2 = .no 4 ∨ r1 = .no 4 ∨ r1 = r2) := fun hw => by
          rw [HD2.out] at hw
          have := files_plain (E := ⟨[], [], []⟩) (E' := ⟨[(nm, s)], [], []⟩) ⟨rfl, rfl, rfl⟩ rfl KR.out (read_bare KR.out) HN.out (by decide) hw hd HC.out.1 HC.out.2
          rw [← HD2.out, ← hr2, ← HR1.out] at this
          exact this
        generalize liD (hd ++ [D2]) = DQ2 at P9 ⊢
        clear hr2 hb5 LI HQ U3
        unfold dv at P9 ⊢
        go_wp2_with fail
        refine P9.out.mono ?_
        rintro e u5 ⟨hb6, ea2, nx2, ec2, ia2, ni2, ic2, ba2, nb2, bc2, rfl, hlm2⟩
        obtain ⟨W8, hW8⟩ : ∃ W8, W8 = u5.alloc (.cells #[.string (libOf r2).name, .slice ea2 nx2 ec2, .slice ia2 ni2 ic2, .slice ba2 nb2 bc2] 30) := ⟨_, rfl⟩
        have b7 : Below u5.heap.size u5 W8 := by rw [hW8]; exact (Below.refl _ _).alloc (Nat.le_refl _) _
        have b67 : Below u4.heap.size u4 W8 := hb6.trans (b7.mono hb6.size)
        have G8 : Hid (Below W7.heap.size W7 W8) := U4.out.trans (b67.mono U4.out.size)
        have XX8 : Hid (W8.heap[u5.heap.size]? = some (.cells #[.string (libOf r2).name, .slice ea2 nx2 ec2, .slice ia2 ni2 ic2, .slice ba2 nb2 bc2] 30 (0, 0))) := by show _ = _; rw [hW8]; exact World.alloc_heap_new u5 _
        have L8 : Hid (LibM (fun k => k < W8.heap.size) (libOf r2) (.slice ea2 nx2 ec2) (.slice ia2 ni2 ic2) (.slice ba2 nb2 bc2) W8) := hlm2.stay (fun k hk => b7.block k hk.2) (fun k hk => Nat.lt_of_lt_of_le hk.2 b7.size)
        have Q8 := hidd hW8.symm
        have K8 : Hid (Below v1.heap.size v1 W8) := G7.out.2.trans (G8.out.mono G7.out.2.size)
        have W19 : Hid (Calls Tryz.prog 19 #[.string bBegin, .slice ka nk kc] W8 (ToldPQ 0 0 (liD (syD bBegin :: ks)) W8)) := by
          have := wclP 0 0 bBegin ks ka kc kf W8 (by decide) (Dc.stay (fun k hk => K8.out.block k hk) (fun k hk => ⟨Or.inr (Nat.zero_le _), Nat.lt_of_lt_of_le hk K8.out.size⟩) _ _ _ KD.out) (by have := KL.out; omega) (Nat.zero_le _)
          rw [← NK.out] at this
          exact this
        rw [← HD2.out] at W19
        clear hb6 hlm2 hW8 b7 b67 P9 U4 K8
        go_upto_region 9 with fail
        rw [Q8.out]
        clear Q8
        go_wp2_with fail
        refine W19.out.mono ?_
        rintro e u6 ⟨hb6, da2, dc2, df2, rfl, hdc2, hdd2⟩
        have M2 : Hid (∃ f, Dc (OKP 0 0 (u6.alloc (.cells #[.int .i64 D2.kind, .int .i64 D2.n, .string D2.name, .int .i64 D2.stamp, .int .i64 D2.lib, .slice da2 D2.kids.length dc2] 26))) (u6.alloc (.cells #[.int .i64 D2.kind, .int .i64 D2.n, .string D2.name, .int .i64 D2.stamp, .int .i64 D2.lib, .slice da2 D2.kids.length dc2] 26)) f (some ⟨u6.heap.size, 0, none⟩) [D2]) := madeP _ _ u6 [(D2, da2, dc2)] (by simp) (Nat.zero_le _) (by
          intro e he
          simp at he
          subst he
          exact ⟨N2.out, hdc2, df2, hdd2⟩)
        have W19b : Hid (Calls Tryz.prog 19 #[.string ⟨#[120]⟩, .slice (some ⟨u6.heap.size, 0, none⟩) 1 1] (u6.alloc (.cells #[.int .i64 D2.kind, .int .i64 D2.n, .string D2.name, .int .i64 D2.stamp, .int .i64 D2.lib, .slice da2 D2.kids.length dc2] 26)) (ToldPQ 0 0 (liD [syD ⟨#[120]⟩, D2]) (u6.alloc (.cells #[.int .i64 D2.kind, .int .i64 D2.n, .string D2.name, .int .i64 D2.stamp, .int .i64 D2.lib, .slice da2 D2.kids.length dc2] 26)))) := by
          obtain ⟨f, hf⟩ := M2.out
          exact wclP 0 0 ⟨#[120]⟩ [D2] _ 1 f _ (by decide) hf (by simp) (Nat.zero_le _)
        have G9 : Hid (Below W8.heap.size W8 (u6.alloc (.cells #[.int .i64 D2.kind, .int .i64 D2.n, .string D2.name, .int .i64 D2.stamp, .int .i64 D2.lib, .slice da2 D2.kids.length dc2] 26))) := hb6.alloc hb6.size _
        obtain ⟨D4, hD4⟩ : ∃ D4, D4 = liD [syD ⟨#[120]⟩, D2] := ⟨_, rfl⟩
        rw [← hD4] at W19b SP
        have N4 : Hid (D4.name.size ≤ maxLen) := by rw [hD4]; exact Nat.zero_le _
        clear hD4 hb6 hdc2 hdd2 M2 W19
        unfold dv
        go_wp2_with fail
        refine W19b.out.mono ?_
        rintro e u7 ⟨hb7, da3, dc3, df3, rfl, hdc3, hdd3⟩
        have M3 : Hid (∃ f, Dc (OKP 0 0 (u7.alloc (.cells #[.int .i64 D4.kind, .int .i64 D4.n, .string D4.name, .int .i64 D4.stamp, .int .i64 D4.lib, .slice da3 D4.kids.length dc3] 26))) (u7.alloc (.cells #[.int .i64 D4.kind, .int .i64 D4.n, .string D4.name, .int .i64 D4.stamp, .int .i64 D4.lib, .slice da3 D4.kids.length dc3] 26)) f (some ⟨u7.heap.size, 0, none⟩) [D4]) := madeP _ _ u7 [(D4, da3, dc3)] (by simp) (Nat.zero_le _) (by
          intro e he
          simp at he
          subst he
          exact ⟨N4.out, hdc3, df3, hdd3⟩)
        have G10 : Hid (Below W8.heap.size W8 (u7.alloc (.cells #[.int .i64 D4.kind, .int .i64 D4.n, .string D4.name, .int .i64 D4.stamp, .int .i64 D4.lib, .slice da3 D4.kids.length dc3] 26))) := by
          have h1 := G9.out.trans (hb7.mono G9.out.size)
          exact h1.alloc h1.size _
        have WR : Hid (Calls Tryz.prog 16 #[.slice (some ⟨u7.heap.size, 0, none⟩) 1 1] (u7.alloc (.cells #[.int .i64 D4.kind, .int .i64 D4.n, .string D4.name, .int .i64 D4.stamp, .int .i64 D4.lib, .slice da3 D4.kids.length dc3] 26)) fun e w' => e = .returned (fv (wrong [D4])) ∧ Below (u7.alloc (.cells #[.int .i64 D4.kind, .int .i64 D4.n, .string D4.name, .int .i64 D4.stamp, .int .i64 D4.lib, .slice da3 D4.kids.length dc3] 26)).heap.size (u7.alloc (.cells #[.int .i64 D4.kind, .int .i64 D4.n, .string D4.name, .int .i64 D4.stamp, .int .i64 D4.lib, .slice da3 D4.kids.length dc3] 26)) w') := by
          obtain ⟨f, hf⟩ := M3.out
          exact Wrong_any _ f [D4] _ 1 _ (Dc.lies (fun _ h => h.2) f _ _ hf) (Nat.le_refl _)
        clear hb7 hdc3 hdd3 M3 W19b G9
        unfold dv
        go_wp2_with fail
        refine WR.out.mono ?_
        rintro e u8 ⟨rfl, hb8⟩
        have G11 : Hid (Below W8.heap.size W8 u8) := G10.out.trans (hb8.mono G10.out.size)
        have BW : Hid (Below w.heap.size w u8) := (G7.out.1.trans (G8.out.mono G7.out.1.size)).trans (G11.out.mono (Nat.le_trans G7.out.1.size G8.out.size))
        have h78 := G8.out.trans (G11.out.mono G8.out.size)
        have x7 := (h78.block _ (Array.getElem?_eq_some_iff.1 XX7.out).1).trans XX7.out
        have x8 := (G11.out.block _ (Array.getElem?_eq_some_iff.1 XX8.out).1).trans XX8.out
        have LA := hidd (L7.out.stay (ok' := fun k => k < u8.heap.size) (w' := u8) (fun k hk => h78.block k hk) (fun k hk => Nat.lt_of_lt_of_le hk h78.size))
        have LB := hidd (L8.out.stay (ok' := fun k => k < u8.heap.size) (w' := u8) (fun k hk => G11.out.block k hk) (fun k hk => Nat.lt_of_lt_of_le hk G11.out.size))
        have y0 : u8.cell? ⟨w6.heap.size, 0, none⟩ = some _ := (cellO x7).trans rfl
        have y1 : u8.cell? ⟨w6.heap.size, 1, none⟩ = some _ := (cellO x7).trans rfl
        have y2 : u8.cell? ⟨w6.heap.size, 2, none⟩ = some _ := (cellO x7).trans rfl
        have y3 : u8.cell? ⟨w6.heap.size, 3, none⟩ = some _ := (cellO x7).trans rfl
        have z0 : u8.cell? ⟨u5.heap.size, 0, none⟩ = some _ := (cellO x8).trans rfl
        have z1 : u8.cell? ⟨u5.heap.size, 1, none⟩ = some _ := (cellO x8).trans rfl
        have z2 : u8.cell? ⟨u5.heap.size, 2, none⟩ = some _ := (cellO x8).trans rfl
        have z3 : u8.cell? ⟨u5.heap.size, 3, none⟩ = some _ := (cellO x8).trans rfl
        clear h78 x7 x8 hb8 WR G10 G11 XX7 XX8 L7 L8
        have SAME : Hid (r1 = r2 → Calls Tryz.prog 11 #[.agg #[.string (libOf r1).name, .slice ea1 nx1 ec1, .slice ia1 ni1 ic1, .slice ba1 nb1 bc1], .agg #[.string (libOf r2).name, .slice ea2 nx2 ec2, .slice ia2 ni2 ic2, .slice ba2 nb2 bc2]] u8 (YesB u8)) := fun hq => by
          have h7 := LB.out
          rw [← hq] at h7 ⊢
          exact same_any u8.heap.size (libOf r1) _ _ _ _ _ _ u8 (Nat.le_refl _) LA.out h7 MU1.out.1.e MU1.out.1.i MU1.out.2
        unfold fv
        generalize wrong [D4] = wy at SP ⊢
        obtain ⟨y, yp⟩ := wy
        simp only at SP ⊢
        have EQ : Hid (y = 0 → ¬ errOf r1 = 4 → ¬ errOf r2 = 4 → ¬ errOf r2 = 6 → r1 = r2) := fun hy h1 h2 h3 => by
          rcases SP.out hy with h | h | h | h
          · exact absurd (by rw [h]; rfl) h3
          · exact absurd (by rw [h]; rfl) h2
          · exact absurd (by rw [h]; rfl) h1
          · exact h
        have EE : Hid (r1 = r2 → errOf r1 = errOf r2) := fun h => by rw [h]
        generalize errOf r1 = x1 at EQ EE ⊢
        generalize errOf r2 = x2 at EQ EE ⊢
        clear SP LA LB MU1 HR1
        have fl := field_faultL y yp u8
        by_cases qy : ¬ y = 0
        · have f1 : decide (y = 0) = false := by simp [qy]
          have f2 : (y == 0) = false := by simp [qy]
          have f3 : (y != 0) = true := by simp [qy]
          go_wp2_with fail
          go_ret
          exact ⟨rfl, BW.out⟩
        obtain rfl : y = 0 := Classical.not_not.1 qy
        clear qy
        by_cases q0 : x1 = 6
        · subst q0
          go_wp2_with fail
          go_ret
          exact ⟨rfl, BW.out⟩
        have d0 : decide (x1 = 6) = false := by simp [q0]
        have t0 : (x1 == 6) = false := by simp [q0]
        by_cases q1 : x2 = 6
        · subst q1
          go_wp2_with fail
          go_ret
          exact ⟨rfl, BW.out⟩
        have d1 : decide (x2 = 6) = false := by simp [q1]
        have t1 : (x2 == 6) = false := by simp [q1]
        by_cases q2 : x1 = 4
        · subst q2
          go_wp2_with fail
          go_ret
          exact ⟨rfl, BW.out⟩
        have d2 : decide (x1 = 4) = false := by simp [q2]
        have t2 : (x1 == 4) = false := by simp [q2]
        by_cases q3 : x2 = 4
        · subst q3
          go_wp2_with fail
          go_ret
          exact ⟨rfl, BW.out⟩
        have d3 : decide (x2 = 4) = false := by simp [q3]
        have t3 : (x2 == 4) = false := by simp [q3]
        have hq := EQ.out rfl q2 q3 q1
        have SA := hidd (SAME.out hq)
        obtain rfl : x1 = x2 := EE.out hq
        clear hq SAME EQ EE
        go_wp2_with fail
        refine SA.out.mono ?_
        rintro e u9 ⟨rfl, hb9⟩
        have G12 : Hid (Below w.heap.size w u9) := BW.out.trans (hb9.mono BW.out.size)
        clear hb9 SA
        go_wp2_with fail
        go_ret
        exact ⟨rfl, G12.out⟩
      · obtain rfl : nh = 1 := by omega
        obtain ⟨y, hy⟩ : ∃ y, hd = [y] := List.length_eq_one_iff.1 NH.out.symm
        have hd0 : hd ≠ [] := by rw [hy]; simp
        obtain ⟨f', b, o, rfl, rfl, hb, hall⟩ := HH.out.at hd0
        obtain ⟨a', cap, _, _, c2n, _⟩ := hall 0 y (by rw [hy]; rfl)
        have e2 : V.cell? ⟨b, o + 2, none⟩ = some (.string y.name) := (BV.out.1.cell (p := ⟨b, o + 2, none⟩) hb).trans (by simpa using c2n)
        clear c0 c2 hall c2n hb
        by_cases hp : y.name = bProgram
        · have HC : Hid (hd ≠ [] ∧ (2 ≤ hd.length ∨ ∃ y, hd = [y] ∧ y.name = bProgram)) := ⟨hd0, Or.inr ⟨y, hy, hp⟩⟩
          have mp : (y.name.toList == [112, 114, 111, 103, 114, 97, 109]) = true := by
            have k : (y.name.toList == bProgram.toList) = true := by rw [hp]; simp
            unfold bProgram at k
            simpa using k
          clear e0 hd0 hy hp
          have FV : Hid (Below V.heap.size V (V.alloc (.cells #[.string nm, .string s] 49)) ∧ (V.alloc (.cells #[.string nm, .string s] 49)).heap[V.heap.size]? = some (.cells #[.string nm, .string s] 49 (0, 0))) := ⟨(Below.refl _ _).alloc (Nat.le_refl _) _, World.alloc_heap_new V _⟩
          have FW : Hid (Below V.heap.size V ((V.alloc (.cells #[.string nm, .string s] 49)).alloc (.cells #[] 26)) ∧ Below w.heap.size w ((V.alloc (.cells #[.string nm, .string s] 49)).alloc (.cells #[] 26))) := by
            have h1 : Below V.heap.size V ((V.alloc (.cells #[.string nm, .string s] 49)).alloc (.cells #[] 26)) := FV.out.1.alloc FV.out.1.size _
            exact ⟨h1, BV.out.1.trans (h1.mono BV.out.1.size)⟩
          have RF : Hid (RowD (V.heap.size + 1) (.slice (some ⟨V.heap.size + 1, 0, none⟩) 0 0) [] ((V.alloc (.cells #[.string nm, .string s] 49)).alloc (.cells #[] 26))) := by
            have := RowD.fresh (V.alloc (.cells #[.string nm, .string s] 49))
            show RowD (V.heap.size + 1) _ [] _
            simpa using this
          go_wp2_with (at_builtin; refine wpList_rowX rfl _ _ rfl (B := V.heap.size + 1) (v := .slice (some ⟨V.heap.size + 1, 0, none⟩) 0 0) (es := []) (by exact RF.out) (ok := fun k => k < w.heap.size) (F := f' + 1) (a := some ⟨b, o, none⟩) (l := hd) (cap := ch) rfl (by rw [← NH.out]; rfl) (Dc.stay (fun k hk => FW.out.2.block k hk) (fun _ h => h) _ _ _ HH.out) (fun k hk => ⟨Nat.lt_of_lt_of_le hk FW.out.2.size, fun e => by have h1 := BV.out.1.size; have h3 : k = V.heap.size + 1 := (by simpa [Value.ownBlock] using e); omega⟩) (by simp) (by have h1 := HB.out; have h2 : reachBytes < 140737488355328 - 4000 := (by unfold reachBytes; decide); simp; omega) ?_)
          intro v2 w1 fs hfs hr1 hb1 hkf1 hwo1
          have G1 : Hid (Below w.heap.size w w1 ∧ Below v1.heap.size v1 w1 ∧ V.heap.size + 1 ≤ w1.heap.size ∧ w1.heap[V.heap.size]? = some (.cells #[.string nm, .string s] 49 (0, 0))) := by
            have hx : Below (V.heap.size + 1) (V.alloc (.cells #[.string nm, .string s] 49)) ((V.alloc (.cells #[.string nm, .string s] 49)).alloc (.cells #[] 26)) := by
              have := ((Below.refl _ _).alloc (Nat.le_refl _) _ : Below (V.alloc (.cells #[.string nm, .string s] 49)).heap.size (V.alloc (.cells #[.string nm, .string s] 49)) ((V.alloc (.cells #[.string nm, .string s] 49)).alloc (.cells #[] 26)))
              simpa using this
            have h2 : Below (V.heap.size + 1) (V.alloc (.cells #[.string nm, .string s] 49)) w1 := hx.trans hb1
            have h3 : Below V.heap.size V w1 := FV.out.1.trans (h2.mono (by omega))
            refine ⟨BV.out.1.trans (h3.mono BV.out.1.size), BV.out.2.trans (h3.mono BV.out.2.size), by have := h2.size; simpa using this, (h2.block _ (by omega)).trans FV.out.2⟩
          have R1 : Hid (RowD (V.heap.size + 1) v2 fs w1 ∧ fs.map (·.1) = hd ∧ ∀ k, v2.ownBlock = some k → V.heap.size + 1 ≤ k ∧ k < w1.heap.size) := ⟨hr1, hfs, fun k hk => ⟨(hr1.own.lt k hk).1, (hr1.own.lt k hk).2⟩⟩
          clear hr1 hb1 hkf1 hwo1 hfs RF FW FV
          go_wp2_with fail
          refine (Sym_any nm w1).mono ?_
          rintro e w2 ⟨rfl, hb2⟩
          have G2 : Hid (Below w1.heap.size w1 w2) := hb2
          obtain ⟨D0, hD0⟩ : ∃ D0, D0 = syD nm := ⟨_, rfl⟩
          rw [← hD0]
          have HD0 := hidd hD0
          have M0 : Hid (∃ f, Dc (OKP v1.heap.size w1.heap.size (w2.alloc (.cells #[.int .i64 D0.kind, .int .i64 D0.n, .string D0.name, .int .i64 D0.stamp, .int .i64 D0.lib, .slice none D0.kids.length 0] 26))) (w2.alloc (.cells #[.int .i64 D0.kind, .int .i64 D0.n, .string D0.name, .int .i64 D0.stamp, .int .i64 D0.lib, .slice none D0.kids.length 0] 26)) f (some ⟨w2.heap.size, 0, none⟩) [D0]) := madeP _ _ w2 [(D0, none, 0)] (by simp) hb2.size (by
            intro e he
            simp at he
            subst he
            rw [hD0]
            exact ⟨HS.out.1, Nat.le_refl 0, 0, rfl⟩)
          have W19 : Hid (Calls Tryz.prog 19 #[.string bInclude, .slice (some ⟨w2.heap.size, 0, none⟩) 1 1] (w2.alloc (.cells #[.int .i64 D0.kind, .int .i64 D0.n, .string D0.name, .int .i64 D0.stamp, .int .i64 D0.lib, .slice none D0.kids.length 0] 26)) (ToldPQ v1.heap.size w1.heap.size (liD [syD bInclude, D0]) (w2.alloc (.cells #[.int .i64 D0.kind, .int .i64 D0.n, .string D0.name, .int .i64 D0.stamp, .int .i64 D0.lib, .slice none D0.kids.length 0] 26)))) := by
            obtain ⟨f, hf⟩ := M0.out
            exact wclP _ _ bInclude [D0] _ 1 f _ (by decide) hf (by simp) (by have := hb2.size; simp; omega)
          obtain ⟨D1, hD1⟩ : ∃ D1, D1 = liD [syD bInclude, D0] := ⟨_, rfl⟩
          rw [← hD1] at W19
          have HD1 := hidd hD1
          have N1 : Hid (D1.name.size ≤ maxLen) := by rw [hD1]; exact Nat.zero_le _
          clear hb2 hD0 hD1 M0
          unfold dv
          go_wp2_with fail
          refine W19.out.mono ?_
          rintro e w3 ⟨hb3, da1, dc1, df1, rfl, hdc1, hdd1⟩
          have G3 : Hid (Below w1.heap.size w1 w3 ∧ Below w1.heap.size w1 (w3.alloc (.cells #[.int .i64 D1.kind, .int .i64 D1.n, .string D1.name, .int .i64 D1.stamp, .int .i64 D1.lib, .slice da1 D1.kids.length dc1] 26))) := by
            have h1 : Below w2.heap.size w2 w3 := ((Below.refl _ _).alloc (Nat.le_refl _) _).trans (hb3.mono (by simp))
            have h2 : Below w1.heap.size w1 w3 := G2.out.trans (h1.mono G2.out.size)
            exact ⟨h2, h2.alloc h2.size _⟩
          have M1 : Hid (∃ f, Dc (OKP v1.heap.size w1.heap.size (w3.alloc (.cells #[.int .i64 D1.kind, .int .i64 D1.n, .string D1.name, .int .i64 D1.stamp, .int .i64 D1.lib, .slice da1 D1.kids.length dc1] 26))) (w3.alloc (.cells #[.int .i64 D1.kind, .int .i64 D1.n, .string D1.name, .int .i64 D1.stamp, .int .i64 D1.lib, .slice da1 D1.kids.length dc1] 26)) f (some ⟨w3.heap.size, 0, none⟩) [D1]) := madeP _ _ w3 [(D1, da1, dc1)] (by simp) G3.out.1.size (by
            intro e he
            simp at he
            subst he
            exact ⟨N1.out, hdc1, df1, hdd1⟩)
          obtain ⟨mf1, hm1⟩ := M1.out
          obtain ⟨l1, hl1⟩ : ∃ l1, l1 = [D1] := ⟨_, rfl⟩
          rw [← hl1] at hm1
          have MF1 := hidd hm1
          have HL1 := hidd hl1
          clear hb3 hdc1 hdd1 hm1 hl1 M1 W19 G2
          unfold dv
          go_wp2_with (at_builtin; refine wpList_rowX rfl _ _ rfl (B := V.heap.size + 1) (v := v2) (es := fs) (by exact R1.out.1.below G3.out.2) (ok := OKP v1.heap.size w1.heap.size (w3.alloc (.cells #[.int .i64 D1.kind, .int .i64 D1.n, .string D1.name, .int .i64 D1.stamp, .int .i64 D1.lib, .slice da1 D1.kids.length dc1] 26))) (F := mf1) (a := some ⟨w3.heap.size, 0, none⟩) (l := l1) (cap := 1) rfl (by rw [HL1.out]; rfl) MF1.out (fun k hk => ⟨hk.2, fun e => by have h1 := R1.out.2.2 k e.symm; have h2 := BV.out.2.size; have h3 := hk.1; omega⟩) (Nat.le_trans G1.out.2.2.1 G3.out.2.size) (by have h0 := congrArg List.length R1.out.2.1; rw [List.length_map] at h0; have h1 := HB.out; have h2 : reachBytes < 140737488355328 - 4000 := (by unfold reachBytes; decide); rw [HL1.out]; simp; omega) ?_)
          intro v3 w4 gs hgs hr4 hb4 hkf4 hwo4
          obtain ⟨va, vc, vf, hva, hvc, hdd⟩ := hr4.lieN (by have h0 := congrArg List.length R1.out.2.1; have h4 := congrArg List.length hgs; rw [List.length_map] at h0 h4; have h1 := HB.out; have h2 : reachBytes < 140737488355328 - 4000 := (by unfold reachBytes; decide); rw [List.length_append, h0, h4, HL1.out]; simp; omega)
          have hmp : List.map (fun x : Dat × Option Addr × Nat => x.1) (fs ++ gs) = hd ++ [D1] := by rw [List.map_append, R1.out.2.1, hgs, HL1.out]
          rw [hmp] at hva hvc hdd
          subst hva
          have G4 : Hid (Below w.heap.size w w4 ∧ Below v1.heap.size v1 w4 ∧ w4.heap[V.heap.size]? = some (.cells #[.string nm, .string s] 49 (0, 0))) := by
            have h1 : Below (V.heap.size + 1) w1 w4 := (G3.out.2.mono G1.out.2.2.1).trans hb4
            have hs1 := BV.out.1.size
            have hs2 := BV.out.2.size
            exact ⟨G1.out.1.trans (h1.mono (by omega)), G1.out.2.1.trans (h1.mono (by omega)), (h1.block _ (by omega)).trans G1.out.2.2.2⟩
          obtain ⟨m, hm⟩ : ∃ m, m = (hd ++ [D1]).length := ⟨_, rfl⟩
          have LI := hidd (List_any (hd ++ [D1]) va vc w4)
          have HQ : Hid ((hd ++ [D1]).length ≤ vc ∧ Dn w4 vf va (hd ++ [D1])) := ⟨hvc, hdd⟩
          rw [← hm] at LI ⊢
          clear hr4 hb4 hkf4 hwo4 hgs hvc hdd hmp hm R1 G1 G3 MF1
          go_wp2_with fail
          refine LI.out.mono ?_
          rintro e w5 ⟨rfl, hb5⟩
          have G5 : Hid (Below w.heap.size w w5 ∧ Below v1.heap.size v1 w5 ∧ w5.heap[V.heap.size]? = some (.cells #[.string nm, .string s] 49 (0, 0))) := ⟨G4.out.1.trans (hb5.mono G4.out.1.size), G4.out.2.1.trans (hb5.mono G4.out.2.1.size), (hb5.block _ (Array.getElem?_eq_some_iff.1 G4.out.2.2).1).trans G4.out.2.2⟩
          have P9 : Hid (Calls Tryz.prog 9 #[.slice (some ⟨V.heap.size, 0, none⟩) 1 1, .slice none 0 0, .slice none 0 0, dv (liD (hd ++ [D1])) va vc] w5 (ToldQ (parseF ⟨[(nm, s)], [], []⟩ (liD (hd ++ [D1]))) w5)) :=
            (Parse_any w5.heap.size vf ⟨[(nm, s)], [], []⟩ _ _ _ (liD (hd ++ [D1])) va vc w5 (Nat.le_refl _) (HT.out _ G5.out.1).2 ⟨⟨_, 1, rfl, Or.inr ⟨V.heap.size, 0, rfl, (Array.getElem?_eq_some_iff.1 G5.out.2.2).1, fun j p hj => by
              match j, hj with
              | 0, hj =>
                obtain rfl := Option.some.inj hj
                exact ⟨(cellO G5.out.2.2).trans rfl, (cellO G5.out.2.2).trans rfl, HS.out.2⟩
              | j + 1, hj => simp at hj⟩⟩, SV.nil _ _, SV.nil _ _, by simp, by simp, by simp⟩ (HT.out _ G5.out.1).1 (HQ.out.2.lift hb5) HQ.out.1 (Nat.zero_le _)).mono fun _ _ h => h.q
          obtain ⟨r1, hr1⟩ : ∃ r1, r1 = parseF ⟨[(nm, s)], [], []⟩ (liD (hd ++ [D1])) := ⟨_, rfl⟩
          rw [← hr1] at P9
          have HR1 : Hid (r1 = parseF ⟨[(nm, s)], [], []⟩ (liD (hd ++ [liD [syD bInclude, syD nm]]))) := by rw [← HD0.out, ← HD1.out]; exact hr1
          have MU1 : Hid (Inv (libOf r1) ∧ seOkL (libOf r1).imports) := by rw [hr1]; exact libOf_much _ _
          generalize liD (hd ++ [D1]) = DQ at P9 ⊢
          clear hr1 hb5 LI HQ G4
          unfold dv at P9 ⊢
          go_wp2_with fail
          refine P9.out.mono ?_
          rintro e w6 ⟨hb6, ea1, nx1, ec1, ia1, ni1, ic1, ba1, nb1, bc1, rfl, hlm1⟩
          obtain ⟨W7, hW7⟩ : ∃ W7, W7 = w6.alloc (.cells #[.string (libOf r1).name, .slice ea1 nx1 ec1, .slice ia1 ni1 ic1, .slice ba1 nb1 bc1] 30) := ⟨_, rfl⟩
          have b7 : Below w6.heap.size w6 W7 := by rw [hW7]; exact (Below.refl _ _).alloc (Nat.le_refl _) _
          have b67 : Below w5.heap.size w5 W7 := hb6.trans (b7.mono hb6.size)
          have G7 : Hid (Below w.heap.size w W7 ∧ Below v1.heap.size v1 W7) := ⟨G5.out.1.trans (b67.mono G5.out.1.size), G5.out.2.1.trans (b67.mono G5.out.2.1.size)⟩
          have XX7 : Hid (W7.heap[w6.heap.size]? = some (.cells #[.string (libOf r1).name, .slice ea1 nx1 ec1, .slice ia1 ni1 ic1, .slice ba1 nb1 bc1] 30 (0, 0))) := by show _ = _; rw [hW7]; exact World.alloc_heap_new w6 _
          have L7 : Hid (LibM (fun k => k < W7.heap.size) (libOf r1) (.slice ea1 nx1 ec1) (.slice ia1 ni1 ic1) (.slice ba1 nb1 bc1) W7) := hlm1.stay (fun k hk => b7.block k hk.2) (fun k hk => Nat.lt_of_lt_of_le hk.2 b7.size)
          have Q7 := hidd hW7.symm
          have FW : Hid (Below W7.heap.size W7 (W7.alloc (.cells #[] 26)) ∧ Below w.heap.size w (W7.alloc (.cells #[] 26))) := ⟨(Below.refl _ _).alloc (Nat.le_refl _) _, G7.out.1.alloc G7.out.1.size _⟩
          have RF := hidd (RowD.fresh W7)
          clear hb6 hlm1 hW7 b7 b67 P9 G5
          go_upto_region 8 with fail
          rw [Q7.out]
          clear Q7
          go_wp2_with (at_builtin; refine wpList_rowX rfl _ _ rfl (B := W7.heap.size) (v := .slice (some ⟨W7.heap.size, 0, none⟩) 0 0) (es := []) (by exact RF.out) (ok := fun k => k < w.heap.size) (F := f' + 1) (a := some ⟨b, o, none⟩) (l := hd) (cap := ch) rfl (by rw [← NH.out]; rfl) (Dc.stay (fun k hk => FW.out.2.block k hk) (fun _ h => h) _ _ _ HH.out) (fun k hk => ⟨Nat.lt_of_lt_of_le hk FW.out.2.size, fun e => by have h1 := G7.out.1.size; have h3 : k = W7.heap.size := (by simpa [Value.ownBlock] using e); omega⟩) FW.out.1.size (by have h1 := HB.out; have h2 : reachBytes < 140737488355328 - 4000 := (by unfold reachBytes; decide); simp; omega) ?_)
          intro v4 u1 fs2 hfs hr1 hb1 hkf1 hwo1
          have U1 : Hid (Below W7.heap.size W7 u1) := FW.out.1.trans hb1
          have R1 : Hid (RowD W7.heap.size v4 fs2 u1 ∧ fs2.map (·.1) = hd ∧ ∀ k, v4.ownBlock = some k → W7.heap.size ≤ k ∧ k < u1.heap.size) := ⟨hr1, hfs, fun k hk => ⟨(hr1.own.lt k hk).1, (hr1.own.lt k hk).2⟩⟩
          have K1 : Hid (Below v1.heap.size v1 u1) := G7.out.2.trans (U1.out.mono G7.out.2.size)
          clear hr1 hb1 hkf1 hwo1 hfs RF FW
          have W19 : Hid (Calls Tryz.prog 19 #[.string bBegin, .slice ka nk kc] u1 (ToldPQ v1.heap.size u1.heap.size (liD (syD bBegin :: ks)) u1)) := by
            have := wclP v1.heap.size u1.heap.size bBegin ks ka kc kf u1 (by decide) (Dc.stay (fun k hk => K1.out.block k hk) (fun k hk => ⟨Or.inl hk, Nat.lt_of_lt_of_le hk K1.out.size⟩) _ _ _ KD.out) (by have := KL.out; omega) (Nat.le_refl _)
            rw [← NK.out] at this
            exact this
          obtain ⟨D2, hD2⟩ : ∃ D2, D2 = liD (syD bBegin :: ks) := ⟨_, rfl⟩
          rw [← hD2] at W19
          have HD2 := hidd hD2
          have N2 : Hid (D2.name.size ≤ maxLen) := by rw [hD2]; exact Nat.zero_le _
          clear hD2
          go_wp2_with fail
          refine W19.out.mono ?_
          rintro e u2 ⟨hb3, da1, dc1, df1, rfl, hdc1, hdd1⟩
          have G3 : Hid (Below u1.heap.size u1 u2 ∧ Below u1.heap.size u1 (u2.alloc (.cells #[.int .i64 D2.kind, .int .i64 D2.n, .string D2.name, .int .i64 D2.stamp, .int .i64 D2.lib, .slice da1 D2.kids.length dc1] 26))) := ⟨hb3, hb3.alloc hb3.size _⟩
          have M1 : Hid (∃ f, Dc (OKP v1.heap.size u1.heap.size (u2.alloc (.cells #[.int .i64 D2.kind, .int .i64 D2.n, .string D2.name, .int .i64 D2.stamp, .int .i64 D2.lib, .slice da1 D2.kids.length dc1] 26))) (u2.alloc (.cells #[.int .i64 D2.kind, .int .i64 D2.n, .string D2.name, .int .i64 D2.stamp, .int .i64 D2.lib, .slice da1 D2.kids.length dc1] 26)) f (some ⟨u2.heap.size, 0, none⟩) [D2]) := madeP _ _ u2 [(D2, da1, dc1)] (by simp) G3.out.1.size (by
            intro e he
            simp at he
            subst he
            exact ⟨N2.out, hdc1, df1, hdd1⟩)
          obtain ⟨mf1, hm1⟩ := M1.out
          obtain ⟨l2, hl1⟩ : ∃ l1, l1 = [D2] := ⟨_, rfl⟩
          rw [← hl1] at hm1
          have MF1 := hidd hm1
          have HL2 := hidd hl1
          clear hb3 hdc1 hdd1 hm1 hl1 M1 W19
          unfold dv
          go_wp2_with (at_builtin; refine wpList_rowX rfl _ _ rfl (B := W7.heap.size) (v := v4) (es := fs2) (by exact R1.out.1.below G3.out.2) (ok := OKP v1.heap.size u1.heap.size (u2.alloc (.cells #[.int .i64 D2.kind, .int .i64 D2.n, .string D2.name, .int .i64 D2.stamp, .int .i64 D2.lib, .slice da1 D2.kids.length dc1] 26))) (F := mf1) (a := some ⟨u2.heap.size, 0, none⟩) (l := l2) (cap := 1) rfl (by rw [HL2.out]; rfl) MF1.out (fun k hk => ⟨hk.2, fun e => by have h1 := R1.out.2.2 k e.symm; have h2 := G7.out.2.size; have h3 := hk.1; omega⟩) (Nat.le_trans U1.out.size G3.out.2.size) (by have h0 := congrArg List.length R1.out.2.1; rw [List.length_map] at h0; have h1 := HB.out; have h2 : reachBytes < 140737488355328 - 4000 := (by unfold reachBytes; decide); rw [HL2.out]; simp; omega) ?_)
          intro v5 u3 gs hgs hr4 hb4 hkf4 hwo4
          obtain ⟨va, vc, vf, hva, hvc, hdd⟩ := hr4.lieN (by have h0 := congrArg List.length R1.out.2.1; have h4 := congrArg List.length hgs; rw [List.length_map] at h0 h4; have h1 := HB.out; have h2 : reachBytes < 140737488355328 - 4000 := (by unfold reachBytes; decide); rw [List.length_append, h0, h4, HL2.out]; simp; omega)
          have hmp : List.map (fun x : Dat × Option Addr × Nat => x.1) (fs2 ++ gs) = hd ++ [D2] := by rw [List.map_append, R1.out.2.1, hgs, HL2.out]
          rw [hmp] at hva hvc hdd
          subst hva
          have U3 : Hid (Below W7.heap.size W7 u3) := U1.out.trans ((G3.out.2.mono U1.out.size).trans hb4)
          obtain ⟨m, hm⟩ : ∃ m, m = (hd ++ [D2]).length := ⟨_, rfl⟩
          have LI := hidd (List_any (hd ++ [D2]) va vc u3)
          have HQ : Hid ((hd ++ [D2]).length ≤ vc ∧ Dn u3 vf va (hd ++ [D2])) := ⟨hvc, hdd⟩
          rw [← hm] at LI ⊢
          clear hr4 hb4 hkf4 hwo4 hgs hvc hdd hmp hm R1 G3 MF1 U1 K1
          go_wp2_with fail
          refine LI.out.mono ?_
          rintro e u4 ⟨rfl, hb5⟩
          have U4 : Hid (Below W7.heap.size W7 u4) := U3.out.trans (hb5.mono U3.out.size)
          have P9 : Hid (Calls Tryz.prog 9 #[.slice none 0 0, .slice none 0 0, .slice none 0 0, dv (liD (hd ++ [D2])) va vc] u4 (ToldQ (parseF ⟨[], [], []⟩ (liD (hd ++ [D2]))) u4)) := by
            have hw := G7.out.1.trans (U4.out.mono G7.out.1.size)
            exact (Parse_any u4.heap.size vf ⟨[], [], []⟩ _ _ _ (liD (hd ++ [D2])) va vc u4 (Nat.le_refl _) (HT.out _ hw).2 ⟨⟨none, 0, rfl, Or.inl rfl⟩, SV.nil _ _, SV.nil _ _, by simp, by simp, by simp⟩ (HT.out _ hw).1 (HQ.out.2.lift hb5) HQ.out.1 (Nat.zero_le _)).mono fun _ _ h => h.q
          obtain ⟨r2, hr2⟩ : ∃ r2, r2 = parseF ⟨[], [], []⟩ (liD (hd ++ [D2])) := ⟨_, rfl⟩
          rw [← hr2] at P9
          have SP : Hid ((wrong [liD [syD ⟨#[120]⟩, D2]]).1 = 0 → r2 = .no 6 ∨ r2 = .no 4 ∨ r1 = .no 4 ∨ r1 = r2) := fun hw => by
            rw [HD2.out] at hw
            have := files_plain (E := ⟨[], [], []⟩) (E' := ⟨[(nm, s)], [], []⟩) ⟨rfl, rfl, rfl⟩ rfl KR.out (read_bare KR.out) HN.out (by decide) hw hd HC.out.1 HC.out.2
            rw [← HD2.out, ← hr2, ← HR1.out] at this
            exact this
          generalize liD (hd ++ [D2]) = DQ2 at P9 ⊢
          clear hr2 hb5 LI HQ U3
          unfold dv at P9 ⊢
          go_wp2_with fail
          refine P9.out.mono ?_
          rintro e u5 ⟨hb6, ea2, nx2, ec2, ia2, ni2, ic2, ba2, nb2, bc2, rfl, hlm2⟩
          obtain ⟨W8, hW8⟩ : ∃ W8, W8 = u5.alloc (.cells #[.string (libOf r2).name, .slice ea2 nx2 ec2, .slice ia2 ni2 ic2, .slice ba2 nb2 bc2] 30) := ⟨_, rfl⟩
          have b7 : Below u5.heap.size u5 W8 := by rw [hW8]; exact (Below.refl _ _).alloc (Nat.le_refl _) _
          have b67 : Below u4.heap.size u4 W8 := hb6.trans (b7.mono hb6.size)
          have G8 : Hid (Below W7.heap.size W7 W8) := U4.out.trans (b67.mono U4.out.size)
          have XX8 : Hid (W8.heap[u5.heap.size]? = some (.cells #[.string (libOf r2).name, .slice ea2 nx2 ec2, .slice ia2 ni2 ic2, .slice ba2 nb2 bc2] 30 (0, 0))) := by show _ = _; rw [hW8]; exact World.alloc_heap_new u5 _
          have L8 : Hid (LibM (fun k => k < W8.heap.size) (libOf r2) (.slice ea2 nx2 ec2) (.slice ia2 ni2 ic2) (.slice ba2 nb2 bc2) W8) := hlm2.stay (fun k hk => b7.block k hk.2) (fun k hk => Nat.lt_of_lt_of_le hk.2 b7.size)
          have Q8 := hidd hW8.symm
          have K8 : Hid (Below v1.heap.size v1 W8) := G7.out.2.trans (G8.out.mono G7.out.2.size)
          have W19 : Hid (Calls Tryz.prog 19 #[.string bBegin, .slice ka nk kc] W8 (ToldPQ 0 0 (liD (syD bBegin :: ks)) W8)) := by
            have := wclP 0 0 bBegin ks ka kc kf W8 (by decide) (Dc.stay (fun k hk => K8.out.block k hk) (fun k hk => ⟨Or.inr (Nat.zero_le _), Nat.lt_of_lt_of_le hk K8.out.size⟩) _ _ _ KD.out) (by have := KL.out; omega) (Nat.zero_le _)
            rw [← NK.out] at this
            exact this
          rw [← HD2.out] at W19
          clear hb6 hlm2 hW8 b7 b67 P9 U4 K8
          go_upto_region 9 with fail
          rw [Q8.out]
          clear Q8
          go_wp2_with fail
          refine W19.out.mono ?_
          rintro e u6 ⟨hb6, da2, dc2, df2, rfl, hdc2, hdd2⟩
          have M2 : Hid (∃ f, Dc (OKP 0 0 (u6.alloc (.cells #[.int .i64 D2.kind, .int .i64 D2.n, .string D2.name, .int .i64 D2.stamp, .int .i64 D2.lib, .slice da2 D2.kids.length dc2] 26))) (u6.alloc (.cells #[.int .i64 D2.kind, .int .i64 D2.n, .string D2.name, .int .i64 D2.stamp, .int .i64 D2.lib, .slice da2 D2.kids.length dc2] 26)) f (some ⟨u6.heap.size, 0, none⟩) [D2]) := madeP _ _ u6 [(D2, da2, dc2)] (by simp) (Nat.zero_le _) (by
            intro e he
            simp at he
            subst he
            exact ⟨N2.out, hdc2, df2, hdd2⟩)
          have W19b : Hid (Calls Tryz.prog 19 #[.string ⟨#[120]⟩, .slice (some ⟨u6.heap.size, 0, none⟩) 1 1] (u6.alloc (.cells #[.int .i64 D2.kind, .int .i64 D2.n, .string D2.name, .int .i64 D2.stamp, .int .i64 D2.lib, .slice da2 D2.kids.length dc2] 26)) (ToldPQ 0 0 (liD [syD ⟨#[120]⟩, D2]) (u6.alloc (.cells #[.int .i64 D2.kind, .int .i64 D2.n, .string D2.name, .int .i64 D2.stamp, .int .i64 D2.lib, .slice da2 D2.kids.length dc2] 26)))) := by
            obtain ⟨f, hf⟩ := M2.out
            exact wclP 0 0 ⟨#[120]⟩ [D2] _ 1 f _ (by decide) hf (by simp) (Nat.zero_le _)
          have G9 : Hid (Below W8.heap.size W8 (u6.alloc (.cells #[.int .i64 D2.kind, .int .i64 D2.n, .string D2.name, .int .i64 D2.stamp, .int .i64 D2.lib, .slice da2 D2.kids.length dc2] 26))) := hb6.alloc hb6.size _
          obtain ⟨D4, hD4⟩ : ∃ D4, D4 = liD [syD ⟨#[120]⟩, D2] := ⟨_, rfl⟩
          rw [← hD4] at W19b SP
          have N4 : Hid (D4.name.size ≤ maxLen) := by rw [hD4]; exact Nat.zero_le _
          clear hD4 hb6 hdc2 hdd2 M2 W19
          unfold dv
          go_wp2_with fail
          refine W19b.out.mono ?_
          rintro e u7 ⟨hb7, da3, dc3, df3, rfl, hdc3, hdd3⟩
          have M3 : Hid (∃ f, Dc (OKP 0 0 (u7.alloc (.cells #[.int .i64 D4.kind, .int .i64 D4.n, .string D4.name, .int .i64 D4.stamp, .int .i64 D4.lib, .slice da3 D4.kids.length dc3] 26))) (u7.alloc (.cells #[.int .i64 D4.kind, .int .i64 D4.n, .string D4.name, .int .i64 D4.stamp, .int .i64 D4.lib, .slice da3 D4.kids.length dc3] 26)) f (some ⟨u7.heap.size, 0, none⟩) [D4]) := madeP _ _ u7 [(D4, da3, dc3)] (by simp) (Nat.zero_le _) (by
            intro e he
            simp at he
            subst he
            exact ⟨N4.out, hdc3, df3, hdd3⟩)
          have G10 : Hid (Below W8.heap.size W8 (u7.alloc (.cells #[.int .i64 D4.kind, .int .i64 D4.n, .string D4.name, .int .i64 D4.stamp, .int .i64 D4.lib, .slice da3 D4.kids.length dc3] 26))) := by
            have h1 := G9.out.trans (hb7.mono G9.out.size)
            exact h1.alloc h1.size _
          have WR : Hid (Calls Tryz.prog 16 #[.slice (some ⟨u7.heap.size, 0, none⟩) 1 1] (u7.alloc (.cells #[.int .i64 D4.kind, .int .i64 D4.n, .string D4.name, .int .i64 D4.stamp, .int .i64 D4.lib, .slice da3 D4.kids.length dc3] 26)) fun e w' => e = .returned (fv (wrong [D4])) ∧ Below (u7.alloc (.cells #[.int .i64 D4.kind, .int .i64 D4.n, .string D4.name, .int .i64 D4.stamp, .int .i64 D4.lib, .slice da3 D4.kids.length dc3] 26)).heap.size (u7.alloc (.cells #[.int .i64 D4.kind, .int .i64 D4.n, .string D4.name, .int .i64 D4.stamp, .int .i64 D4.lib, .slice da3 D4.kids.length dc3] 26)) w') := by
            obtain ⟨f, hf⟩ := M3.out
            exact Wrong_any _ f [D4] _ 1 _ (Dc.lies (fun _ h => h.2) f _ _ hf) (Nat.le_refl _)
          clear hb7 hdc3 hdd3 M3 W19b G9
          unfold dv
          go_wp2_with fail
          refine WR.out.mono ?_
          rintro e u8 ⟨rfl, hb8⟩
          have G11 : Hid (Below W8.heap.size W8 u8) := G10.out.trans (hb8.mono G10.out.size)
          have BW : Hid (Below w.heap.size w u8) := (G7.out.1.trans (G8.out.mono G7.out.1.size)).trans (G11.out.mono (Nat.le_trans G7.out.1.size G8.out.size))
          have h78 := G8.out.trans (G11.out.mono G8.out.size)
          have x7 := (h78.block _ (Array.getElem?_eq_some_iff.1 XX7.out).1).trans XX7.out
          have x8 := (G11.out.block _ (Array.getElem?_eq_some_iff.1 XX8.out).1).trans XX8.out
          have LA := hidd (L7.out.stay (ok' := fun k => k < u8.heap.size) (w' := u8) (fun k hk => h78.block k hk) (fun k hk => Nat.lt_of_lt_of_le hk h78.size))
          have LB := hidd (L8.out.stay (ok' := fun k => k < u8.heap.size) (w' := u8) (fun k hk => G11.out.block k hk) (fun k hk => Nat.lt_of_lt_of_le hk G11.out.size))
          have y0 : u8.cell? ⟨w6.heap.size, 0, none⟩ = some _ := (cellO x7).trans rfl
          have y1 : u8.cell? ⟨w6.heap.size, 1, none⟩ = some _ := (cellO x7).trans rfl
          have y2 : u8.cell? ⟨w6.heap.size, 2, none⟩ = some _ := (cellO x7).trans rfl
          have y3 : u8.cell? ⟨w6.heap.size, 3, none⟩ = some _ := (cellO x7).trans rfl
          have z0 : u8.cell? ⟨u5.heap.size, 0, none⟩ = some _ := (cellO x8).trans rfl
          have z1 : u8.cell? ⟨u5.heap.size, 1, none⟩ = some _ := (cellO x8).trans rfl
          have z2 : u8.cell? ⟨u5.heap.size, 2, none⟩ = some _ := (cellO x8).trans rfl
          have z3 : u8.cell? ⟨u5.heap.size, 3, none⟩ = some _ := (cellO x8).trans rfl
          clear h78 x7 x8 hb8 WR G10 G11 XX7 XX8 L7 L8
          have SAME : Hid (r1 = r2 → Calls Tryz.prog 11 #[.agg #[.string (libOf r1).name, .slice ea1 nx1 ec1, .slice ia1 ni1 ic1, .slice ba1 nb1 bc1], .agg #[.string (libOf r2).name, .slice ea2 nx2 ec2, .slice ia2 ni2 ic2, .slice ba2 nb2 bc2]] u8 (YesB u8)) := fun hq => by
            have h7 := LB.out
            rw [← hq] at h7 ⊢
            exact same_any u8.heap.size (libOf r1) _ _ _ _ _ _ u8 (Nat.le_refl _) LA.out h7 MU1.out.1.e MU1.out.1.i MU1.out.2
          unfold fv
          generalize wrong [D4] = wy at SP ⊢
          obtain ⟨y, yp⟩ := wy
          simp only at SP ⊢
          have EQ : Hid (y = 0 → ¬ errOf r1 = 4 → ¬ errOf r2 = 4 → ¬ errOf r2 = 6 → r1 = r2) := fun hy h1 h2 h3 => by
            rcases SP.out hy with h | h | h | h
            · exact absurd (by rw [h]; rfl) h3
            · exact absurd (by rw [h]; rfl) h2
            · exact absurd (by rw [h]; rfl) h1
            · exact h
          have EE : Hid (r1 = r2 → errOf r1 = errOf r2) := fun h => by rw [h]
          generalize errOf r1 = x1 at EQ EE ⊢
          generalize errOf r2 = x2 at EQ EE ⊢
          clear SP LA LB MU1 HR1
          have fl := field_faultL y yp u8
          by_cases qy : ¬ y = 0
          · have f1 : decide (y = 0) = false := by simp [qy]
            have f2 : (y == 0) = false := by simp [qy]
            have f3 : (y != 0) = true := by simp [qy]
            go_wp2_with fail
            go_ret
            exact ⟨rfl, BW.out⟩
          obtain rfl : y = 0 := Classical.not_not.1 qy
          clear qy
          by_cases q0 : x1 = 6
          · subst q0
            go_wp2_with fail
            go_ret
            exact ⟨rfl, BW.out⟩
          have d0 : decide (x1 = 6) = false := by simp [q0]
          have t0 : (x1 == 6) = false := by simp [q0]
          by_cases q1 : x2 = 6
          · subst q1
            go_wp2_with fail
            go_ret
            exact ⟨rfl, BW.out⟩
          have d1 : decide (x2 = 6) = false := by simp [q1]
          have t1 : (x2 == 6) = false := by simp [q1]
          by_cases q2 : x1 = 4
          · subst q2
            go_wp2_with fail
            go_ret
            exact ⟨rfl, BW.out⟩
          have d2 : decide (x1 = 4) = false := by simp [q2]
          have t2 : (x1 == 4) = false := by simp [q2]
          by_cases q3 : x2 = 4
          · subst q3
            go_wp2_with fail
            go_ret
            exact ⟨rfl, BW.out⟩
          have d3 : decide (x2 = 4) = false := by simp [q3]
          have t3 : (x2 == 4) = false := by simp [q3]
          have hq := EQ.out rfl q2 q3 q1
          have SA := hidd (SAME.out hq)
          obtain rfl : x1 = x2 := EE.out hq
          clear hq SAME EQ EE
          go_wp2_with fail
          refine SA.out.mono ?_
          rintro e u9 ⟨rfl, hb9⟩
          have G12 : Hid (Below w.heap.size w u9) := BW.out.trans (hb9.mono BW.out.size)
          clear hb9 SA
          go_wp2_with fail
          go_ret
          exact ⟨rfl, G12.out⟩
        · have mp : (y.name.toList == [112, 114, 111, 103, 114, 97, 109]) = false := by
            have k : (y.name.toList == bProgram.toList) = false := beqS_ne hp
            unfold bProgram at k
            simpa using k
          clear e0 hd0 hy hp
          go_wp2_with fail
          go_ret
          exact ⟨rfl, BV.out.1⟩
end Go.Proofs.YtonafbennobgdaaGreatDoor
