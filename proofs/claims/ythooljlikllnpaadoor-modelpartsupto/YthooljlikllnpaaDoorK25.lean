/- Chapter 7: package model: a procedure without anything around it is called. Chapter 7: package model: a procedure is called whose body is a number. Chapter 7: package model: a call of a procedure with numbers that are put out, evaluated. Chapter 7: package model: Run, where texts are put out in between. -/
import Derived.Test.YthooljlikllnpaaDoorK24
namespace Go.Proofs.YthooljlikllnpaaDoor
section
set_option linter.unusedVariables false
set_option linter.unusedSimpArgs false
open Go.RowKit

/-- The frame that is around a body. -/
def RF (fb : Nat) (w : World) : Prop := w.heap[fb]? = some (.cells #[.slice none 0 0, .int .i64 0, .int .i64 0, .pointer none, .pointer none] 83 (0, 0))
set_option maxRecDepth 100000 in
set_option maxHeartbeats 1600000 in
theorem leap_root (fb : Nat) (w : World) (h : RF fb w) : Calls Tryd.prog 75 #[.pointer (some ⟨fb, 0, none⟩)] w fun e w' => e = .returned (.pointer (some ⟨fb, 0, none⟩)) ∧ w' = w := by
  have c2 : w.cell? ⟨fb, 2, none⟩ = some (.int .i64 0) := (cellO h).trans rfl
  clear h
  go_enter Tryd.func75, Tryd.ntmps75
  go_wp2_with fail
  go_ret
  exact ⟨rfl, rfl⟩
set_option maxRecDepth 100000 in
set_option maxHeartbeats 3200000 in
theorem With_root (fb N o k c : Nat) (w : World) (h : RF fb w) (hk : k ≤ 1000) : Calls Tryd.prog 60 #[.pointer (some ⟨fb, 0, none⟩), .slice (some ⟨N, o, none⟩) k c] w fun e w' => ∃ g, e = .returned (.pointer (some ⟨g, 0, none⟩)) ∧ Below w.heap.size w w' := by
  have c1 : w.cell? ⟨fb, 1, none⟩ = some (.int .i64 0) := (cellO h).trans rfl
  have c2 : w.cell? ⟨fb, 2, none⟩ = some (.int .i64 0) := (cellO h).trans rfl
  have HL : Hid (∀ W, Below w.heap.size w W → Calls Tryd.prog 75 #[.pointer (some ⟨fb, 0, none⟩)] W fun e w' => e = .returned (.pointer (some ⟨fb, 0, none⟩)) ∧ w' = W) := fun W hb => leap_root fb W ((hb.block fb (Array.getElem?_eq_some_iff.1 h).1).trans h)
  clear h
  by_cases h0 : k = 0
  · subst h0
    go_enter Tryd.func60, Tryd.ntmps60
    go_wp2_with fail
    go_ret
    exact ⟨fb, rfl, Below.refl _ _⟩
  · have hd : ((k : Int) == 0) = false := by simp; omega
    have hd' : ¬ ((k : Int) = 0) := by omega
    go_enter Tryd.func60, Tryd.ntmps60
    go_wp2_with fail
    go_region_with (go_at_call 75; refine (HL.out _ (Below.drew (Below.refl _ _))).mono ?_; rintro e w2 ⟨rfl, rfl⟩)
    all_goals
      go_wp2_with fail
      go_ret
      exact ⟨_, rfl, (Below.drew (Below.refl _ _)).alloc (Nat.le_refl _) _⟩
end
section
set_option linter.unusedVariables false
set_option linter.unusedSimpArgs false
open Go.RowKit

theorem RT.calls {B rb : Nat} {txs : List (List UInt8)} {left calls : Int} {gm : Value} {W : World} (h : RT B rb txs left calls gm W) (c : Int) : RT B rb txs left c gm (W.setCell ⟨rb, 2, none⟩ (.int .i64 c)) := by
  obtain ⟨tv, h1, h2⟩ := h
  refine ⟨tv, cell_setV h1 _, ?_⟩
  have hne := own_ne h2 h1
  refine h2.kept (row := some rb) ⟨rfl, rfl, rfl, by simp [World.setCell], fun k _ hk => Below.heap_setCell _ _ _ _ (fun e => hk (by simp [e]))⟩ (Or.inr hne)
theorem RT.cell2 {B rb : Nat} {txs : List (List UInt8)} {left calls : Int} {gm : Value} {W : World} (h : RT B rb txs left calls gm W) : W.cell? ⟨rb, 2, none⟩ = some (.int .i64 calls) ∧ W.frozen? ⟨rb, 2, none⟩ = false := by
  obtain ⟨tv, h1, h2⟩ := h
  exact ⟨(cellO h1).trans rfl, looseO h1⟩
theorem assertNoPr (v : Value) (w : World) : (Instr.typeAssert (.iface 115 v) 77 114 true).run Tryd.prog w = .ok (.tuple #[.string ⟨#[]⟩, .bool false]) w := by
  obtain ⟨i, hi, hz⟩ := Option.map_eq_some_iff.1 (show (Tryd.prog.info? 114).map (·.zero) = some (some (.string ⟨#[]⟩)) by kernel_rfl)
  simp [Instr.typeAssert, run_underlying Tryd.underlying114, hi, hz]
theorem assertProc (v : Value) (w : World) : (Instr.typeAssert (.iface 115 v) 77 115 true).run Tryd.prog w = .ok (.tuple #[v, .bool true]) w := by
  simp [Instr.typeAssert, run_underlying Tryd.underlying115]
set_option maxRecDepth 100000 in
set_option maxHeartbeats 1600000 in
theorem call_proc (B rb N k P lb lo fb : Nat) (txs : List (List UInt8)) (gm : Value) (left n : Int) (w : World) (hr : RT B rb txs left 0 gm w) (hl : 0 < left) (hl9 : left ≤ 1000000) (hB : B ≤ rb) (hBw : B ≤ w.heap.size) (hlb : lb < B) (hk : k ≤ 100)
    (h0 : w.cell? ⟨N, 0, none⟩ = some (.iface 115 (.pointer (some ⟨P, 0, none⟩)))) (hP : w.heap[P]? = some (.cells #[.int .i64 k, .pointer (some ⟨lb, lo, none⟩), .pointer (some ⟨fb, 0, none⟩)] 117 (0, 0))) (hF : RF fb w)
    (k0 : w.cell? ⟨lb, lo, none⟩ = some (.int .i64 1)) (k2 : w.cell? ⟨lb, lo + 2, none⟩ = some (.int .i64 n)) :
    Calls Tryd.prog 44 #[.pointer (some ⟨rb, 0, none⟩), .slice (some ⟨N, 0, none⟩) (k + 1) (k + 1)] w (EvK B rb (fun t v W => t = 104 ∧ v = .int .i64 n ∧ RT B rb txs (left - 1) 0 gm W) w) := by
  have ha1 := assertNoPr (.pointer (some ⟨P, 0, none⟩))
  have ha2 := assertProc (.pointer (some ⟨P, 0, none⟩))
  have hrn : P ≠ rb ∧ fb ≠ rb ∧ lb ≠ rb := by
    obtain ⟨tv, hR, _⟩ := hr
    exact ⟨ne_type hR hP (by decide), ne_type hR hF (by decide), by omega⟩
  have p0 : w.cell? ⟨P, 0, none⟩ = some (.int .i64 k) := (cellO hP).trans rfl
  obtain ⟨c2, z2⟩ := hr.cell2
  have HR1 := hidd (hr.calls 1)
  obtain ⟨W1, hW1⟩ : ∃ W1, W1 = w.setCell ⟨rb, 2, none⟩ (.int .i64 1) := ⟨_, rfl⟩
  have HK1 : Hid (KT B rb w W1) := by rw [hW1]; exact KT.ofKeep ((Keep.refl rb w).setCell _ rfl _)
  have hP1 := HK1.out.at hP (by decide) hrn.1
  have hF1 : RF fb W1 := HK1.out.at hF (by decide) hrn.2.1
  have hB1 := HK1.out.toBelow hB hBw
  have x1 : W1.cell? ⟨P, 1, none⟩ = some (.pointer (some ⟨lb, lo, none⟩)) := (cellO hP1).trans rfl
  have x2 : W1.cell? ⟨P, 2, none⟩ = some (.pointer (some ⟨fb, 0, none⟩)) := (cellO hP1).trans rfl
  have HW : Hid (∀ W o k c, k ≤ 1000 → Below W1.heap.size W1 W → Calls Tryd.prog 60 #[.pointer (some ⟨fb, 0, none⟩), .slice (some ⟨N, o, none⟩) k c] W fun e w' => ∃ g, e = .returned (.pointer (some ⟨g, 0, none⟩)) ∧ Below W.heap.size W w') := fun W o k c hk hb => With_root fb N o k c W ((hb.block fb (Array.getElem?_eq_some_iff.1 hF1).1).trans hF1) hk
  rw [← hW1] at HR1
  have HE : Hid (∀ g W, Below W1.heap.size W1 W → Calls Tryd.prog 28 #[.pointer (some ⟨rb, 0, none⟩), .pointer (some ⟨lb, lo, none⟩), .pointer (some ⟨g, 0, none⟩)] W (EvK B rb (fun t v W' => t = 104 ∧ v = .int .i64 n ∧ RT B rb txs (left - 1) 1 gm W') W)) := fun g W hb => by
    have hbb : Below B w W := hB1.trans (hb.mono (by have := HK1.out.size; omega))
    exact EvK.num (HR1.out.below hb) hl hl9 (by omega) ((hbb.cell (p := ⟨lb, lo, none⟩) hlb).trans k0) ((hbb.cell (p := ⟨lb, lo + 2, none⟩) hlb).trans k2)
  have hxP : P < W1.heap.size := (Array.getElem?_eq_some_iff.1 hP1).1
  have HX : Hid (∀ W, Below W1.heap.size W1 W → W.cell? ⟨P, 1, none⟩ = some (.pointer (some ⟨lb, lo, none⟩)) ∧ W.cell? ⟨P, 2, none⟩ = some (.pointer (some ⟨fb, 0, none⟩))) := fun W hb => ⟨(hb.cell (p := ⟨P, 1, none⟩) hxP).trans x1, (hb.cell (p := ⟨P, 2, none⟩) hxP).trans x2⟩
  have hw1 := hW1.symm
  have hq : (((k + 1 : Nat) : Int) - 1) = k := by omega
  clear hr hP hF k0 k2 hP1 hF1 hB1 x1 x2 hW1
  have hd1 : decide (((k + 1 : Nat) : Int) < 1) = false := by simp; omega
  go_enter Tryd.func44, Tryd.ntmps44
  go_wp2_with fail
  all_goals
    refine (Must_yes _ _).mono ?_
    rintro e w2 ⟨rfl, rfl⟩
    go_wp2_with fail
    refine (Must_yes _ _).mono ?_
    rintro e w2 ⟨rfl, rfl⟩
    go_wp2_with fail
    refine (Must_yes _ _).mono ?_
    rintro e w2 ⟨rfl, rfl⟩
    obtain ⟨y1, y2⟩ := HX.out W1 (Below.refl _ _)
    go_wp2_with fail
    go_region_with (first
      | (go_at_call 60; refine (HW.out _ _ _ _ (by omega) (Below.drew (Below.refl _ _))).mono ?_; rintro e w3 ⟨g, rfl, hb3⟩; have HB3 : Hid (Below W1.heap.size W1 w3) := (Below.drew (Below.refl _ _)).trans hb3; obtain ⟨u1, u2⟩ := HX.out w3 HB3.out)
      | (go_at_call 28; refine (HE.out g w3 HB3.out).mono ?_; rintro e w4 ⟨hk4, t, v, rfl, rfl, rfl, hr4⟩))
    all_goals
      obtain ⟨r2, s2⟩ := hr4.cell2
      have HKK : Hid (KT B rb w2 (w4.setCell ⟨rb, 2, none⟩ (.int .i64 0))) := HK1.out.trans ((KT.ofBelow HB3.out).trans (hk4.trans (KT.ofKeep ((Keep.refl rb w4).setCell _ rfl _))))
      have HRR := hidd (hr4.calls 0)
      clear hk4 hr4
      go_wp2_with fail
      go_ret
      exact ⟨HKK.out, _, _, rfl, rfl, rfl, HRR.out⟩
end
section
set_option linter.unusedVariables false
set_option linter.unusedSimpArgs false
open Go.RowKit

def corO (n : Int) : Cor := corC outB [corN n]
def corA (k : Nat) : Cor := ⟨8, k, 0, ⟨#[]⟩, ⟨#[]⟩, dat0, [corN 0]⟩
def corL (ns : List Int) : Cor := ⟨9, 0, 0, ⟨#[]⟩, ⟨#[]⟩, dat0, corA ns.length :: ns.map corO⟩
theorem Cn.index {B : Nat} {w : World} {g b o : Nat} {c : Cor} (h : Cn B w g b o c) : w.cell? ⟨b, o + 1, none⟩ = some (.int .i64 c.index) := by
  obtain ⟨hb, qa, qc, ka, kc, hn, ho, hd, hk⟩ := h
  exact hn.c1
theorem RT.rn {B rb : Nat} {txs : List (List UInt8)} {left calls : Int} {gm : Value} {W : World} (h : RT B rb txs left calls gm W) : ∃ tv, RN rb tv left calls gm W := by
  obtain ⟨tv, h1, h2⟩ := h
  exact ⟨tv, h1⟩
def RL (B rb mb mo fb : Nat) (ns : List Int) (left : Int) (gm : Value) (vs : List (TypeId × Value)) (W : World) : Prop :=
  RF fb W ∧ match vs with
  | [] => RT B rb [] (left - 1) 0 gm W
  | v0 :: r => (∃ P, v0 = (115, .pointer (some ⟨P, 0, none⟩)) ∧ W.heap[P]? = some (.cells #[.int .i64 ns.length, .pointer (some ⟨mb, mo, none⟩), .pointer (some ⟨fb, 0, none⟩)] 117 (0, 0))) ∧ RT B rb ((ns.take r.length).map Lib.itoa) (left - 2 - 3 * r.length) 0 gm W
theorem eval_left (B T : Nat) (ns : List Int) (g rb cb co fb : Nat) (gm : Value) (left : Int) (w : World)
    (hr : RT B rb [] left 0 gm w) (hn : ns.length ≤ 30) (hl : 100 ≤ left) (hl9 : left ≤ 1000000) (hB : B ≤ rb) (hBw : B ≤ w.heap.size) (hC : Cn B w g cb co (corL ns)) (hF : RF fb w)
    (ht : Tab T w) (hT : T ≤ B) (h1 : ∀ n ∈ ns, rangeN n = true) :
    Calls Tryd.prog 28 #[.pointer (some ⟨rb, 0, none⟩), .pointer (some ⟨cb, co, none⟩), .pointer (some ⟨fb, 0, none⟩)] w (EvK B rb (fun t v W => RT B rb (ns.map Lib.itoa) (left - 2 - 3 * ns.length - 1) 0 gm W) w) := by
  obtain ⟨g1, lb, lo, cap, k11, hcap, hlb, hkid⟩ := hC.row (by simp [corL])
  obtain ⟨tv, hRN⟩ := hr.rn
  have hrb : rb < w.heap.size := (Array.getElem?_eq_some_iff.1 hRN).1
  have hlen : (corL ns).kids.length = ns.length + 1 := by simp [corL]
  rw [hlen] at k11 hcap
  have hA : Cn B w g1 lb lo (corA ns.length) := by simpa using hkid 0 _ rfl
  obtain ⟨g2, mb, mo, cap2, m11, hcap2, hmb, hmk⟩ := hA.row (by simp [corA])
  have hM : Cn B w g2 mb mo (corN 0) := by simpa using hmk 0 _ rfl
  have cel := hC.cells
  have fne : fb ≠ rb := ne_type hRN hF (by decide)
  refine eval_callK B rb cb co lb lo (ns.length + 1) cap [] gm (.pointer (some ⟨fb, 0, none⟩)) left 0 (RL B rb mb mo fb ns left gm) _ w hr (by omega) hl9 (by have := hC.1; omega) (by omega) hcap hrb cel.1 k11 ?_ (fun W hb => ?_) ?_ ?_
  · intro vs W N cs q v e1 _ h
    obtain ⟨hf, h⟩ := h
    refine ⟨(Below.heap_setCell _ _ _ _ (by simpa using ne77 e1 hf (by decide))).trans hf, ?_⟩
    match vs, h with
    | [], h => exact h.set77 e1
    | v0 :: r, h =>
      obtain ⟨⟨P, e2, e3⟩, e4⟩ := h
      exact ⟨⟨P, e2, (Below.heap_setCell _ _ _ _ (by simpa using ne77 e1 e3 (by decide))).trans e3⟩, e4.set77 e1⟩
  · refine ⟨?_, hr.first hb⟩
    refine (hb.block fb (Array.getElem?_eq_some_iff.1 hF).1).trans ?_
    exact (Below.heap_setCell _ _ _ _ (by simpa using fne)).trans hF
  · intro vs W hj hk hR
    have hkB := hk.toBelow hB hBw
    have hBW : B ≤ W.heap.size := Nat.le_trans hBw hk.size
    obtain ⟨hf, h⟩ := hR
    match vs, hj, h with
    | [], _, h =>
      have hA' := hA.below hkB
      have m11' := (hkB.cell (p := ⟨lb, lo + 11, none⟩) hlb).trans m11
      have ca := hA'.cells
      refine (eval_lam B rb lb (lo + 0) mb mo cap2 fb [] gm (left - 1) 0 ns.length W h (by omega) (by omega) (by omega) hcap2 (by simpa [corA] using ca.1) (by simpa [corA] using hA'.index) (by simpa [corA] using m11')).mono ?_
      rintro e w' ⟨q1, t, v, rfl, rfl, q2, P, q3, rfl, q4⟩
      refine ⟨q1, _, _, rfl, q1.at hf (by decide) fne, ⟨P, rfl, q4⟩, ?_⟩
      have e : left - 1 - 1 = left - 2 - 3 * ((0 : Nat) : Int) := by omega
      simp only [List.length_nil, List.take_zero, List.map_nil]
      rw [← e]
      exact q2
    | v0 :: r, hj, h =>
      obtain ⟨⟨P, e2, e3⟩, e4⟩ := h
      have hrl : r.length < ns.length := by simpa using hj
      obtain ⟨tvW, hRW⟩ := e4.rn
      have pne : P ≠ rb := ne_type hRW e3 (by decide)
      have hO : Cn B W g1 lb (lo + (r.length + 1) * 12) (corO ns[r.length]) := (hkid (r.length + 1) _ (by simp [corL, hrl])).below hkB
      obtain ⟨g3, ob, oo, cap3, o11, hcap3, hob, hok⟩ := hO.row (by simp [corO, corC])
      have o0 := hok 0 _ rfl
      have o1 := hok 1 _ rfl
      have co0 := hO.cells
      refine (out_num B T ns[r.length] ((ns.take r.length).map Lib.itoa) rb lb (lo + (r.length + 1) * 12) ob oo cap3 gm (.pointer (some ⟨fb, 0, none⟩)) (left - 2 - 3 * r.length) 0 W e4 (by omega) (by omega) hB hBW hlb hob hcap3 (by simp; omega) (ht.below (hkB.mono hT)) hT (h1 _ (List.getElem_mem hrl))
        (by simpa [corO, corC] using co0.1) (by simpa [corO, corC] using o11) (by simpa [corP] using o0.cells.1) (by simpa [corP] using o0.cells.2.2) (by simpa [corN] using o1.cells.1) (by simpa [corN] using o1.cells.2.1)).mono ?_
      rintro e w' ⟨q1, t, v, rfl, rfl, rfl, q2⟩
      refine ⟨q1, _, _, rfl, q1.at hf (by decide) fne, ⟨P, e2, q1.at e3 (by decide) pne⟩, ?_⟩
      have e : left - 2 - 3 * (r.length : Int) - 3 = left - 2 - 3 * ((r.length + 1 : Nat) : Int) := by omega
      rw [e] at q2
      have et : (ns.take r.length).map Lib.itoa ++ [Lib.itoa ns[r.length]] = (ns.take (r.length + 1)).map Lib.itoa := by
        rw [List.take_add_one, List.getElem?_eq_getElem hrl, List.map_append]
        rfl
      rw [et] at q2
      simpa using q2
  · intro N vs W hN hNW hk hvl h77 hR hcs
    have hkB := hk.toBelow hB hBw
    obtain ⟨hf, h⟩ := hR
    match vs, hvl, h, hcs with
    | v0 :: r, hvl, h, hcs =>
      obtain ⟨⟨P, rfl, e3⟩, e4⟩ := h
      have hrl : r.length = ns.length := by simpa using hvl
      rw [hrl, List.take_length] at e4
      have cM := (hM.below hkB).cells
      refine (call_proc B rb N ns.length P mb mo fb (ns.map Lib.itoa) gm (left - 2 - 3 * ns.length) 0 W e4 (by omega) (by omega) hB (Nat.le_trans hBw hk.size) hmb (by omega) (hcs 0 _ _ rfl) e3 hf (by simpa [corN] using cM.1) (by simpa [corN] using cM.2.1)).mono ?_
      rintro e w' ⟨q1, t, v, rfl, rfl, rfl, q2⟩
      exact ⟨q1, _, _, rfl, q2⟩
end
section
set_option linter.unusedVariables false
set_option linter.unusedSimpArgs false
open Go.RowKit

set_option maxRecDepth 100000 in
set_option maxHeartbeats 3200000 in
theorem run_oneK (B rb pb po pcap cb co ccap : Nat) (nm : ByteArray) (R : World → Prop) (w : World)
    (hrb : rb < w.heap.size) (k0 : w.cell? ⟨pb, po, none⟩ = some (.string nm)) (k1 : w.cell? ⟨pb, po + 1, none⟩ = some (.slice (some ⟨cb, co, none⟩) 1 ccap)) (hpb : pb < w.heap.size)
    (hst : ∀ (N : Nat) (z : Int) (W : World), W.heap[N]? = some (.cells #[.int .i64 0] 3 (0, 0)) → R W → R (W.setCell ⟨N, 0, none⟩ (.int .i64 z)))
    (EV : ∀ (W : World) (fb : Nat), Below w.heap.size w W → RF fb W → Calls Tryd.prog 28 #[.pointer (some ⟨rb, 0, none⟩), .pointer (some ⟨cb, co, none⟩), .pointer (some ⟨fb, 0, none⟩)] W (EvK B rb (fun _ _ => R) W)) :
    Calls Tryd.prog 21 #[.pointer (some ⟨rb, 0, none⟩), .slice (some ⟨pb, po, none⟩) 1 pcap] w fun e w' => e = .returned (.int .i64 1) ∧ KT B rb w w' ∧ R w' := by
  have hmf : ∀ (fn : Fn) (first cap : Array Value) (w : World), (Instr.makeFunc fn first cap).run Tryd.prog w = .ok (.func fn first cap) w := fun _ _ _ _ => rfl
  have HEV := hidd EV
  have HST := hidd hst
  clear EV hst
  have BB : Hid (Below w.heap.size w (((w.alloc (.cells #[.int .i64 0] 3)).alloc (.cells #[.string nm, .slice (some ⟨cb, co, none⟩) 1 ccap] 39)).alloc (.cells #[.slice none 0 0, .int .i64 0, .int .i64 0, .pointer none, .pointer none] 83))) := (((Below.refl _ _).alloc (Nat.le_refl _) _).alloc (by simp) _).alloc (by simp; omega) _
  have H0 : Hid ((((w.alloc (.cells #[.int .i64 0] 3)).alloc (.cells #[.string nm, .slice (some ⟨cb, co, none⟩) 1 ccap] 39)).alloc (.cells #[.slice none 0 0, .int .i64 0, .int .i64 0, .pointer none, .pointer none] 83)).heap[w.heap.size]? = some (.cells #[.int .i64 0] 3 (0, 0)) ∧ RF (w.heap.size + 1 + 1) (((w.alloc (.cells #[.int .i64 0] 3)).alloc (.cells #[.string nm, .slice (some ⟨cb, co, none⟩) 1 ccap] 39)).alloc (.cells #[.slice none 0 0, .int .i64 0, .int .i64 0, .pointer none, .pointer none] 83))) := by
    constructor
    · rw [Below.heap_alloc _ _ _ (by simp; omega), Below.heap_alloc _ _ _ (alloc_lt _ _)]
      exact World.alloc_heap_new w _
    · have := World.alloc_heap_new ((w.alloc (.cells #[.int .i64 0] 3)).alloc (.cells #[.string nm, .slice (some ⟨cb, co, none⟩) 1 ccap] 39)) (.cells #[.slice none 0 0, .int .i64 0, .int .i64 0, .pointer none, .pointer none] 83)
      simpa [RF] using this
  have HE := hidd (HEV.out (((w.alloc (.cells #[.int .i64 0] 3)).alloc (.cells #[.string nm, .slice (some ⟨cb, co, none⟩) 1 ccap] 39)).alloc (.cells #[.slice none 0 0, .int .i64 0, .int .i64 0, .pointer none, .pointer none] 83)) (w.heap.size + 1 + 1) BB.out H0.out.2)
  go_enter_defers Tryd.func21, Tryd.ntmps21
  go_wp2_with fail
  refine wp_loop_rounds 2 ?_
  rw [rounds_succ]
  go_wp2_with fail
  refine wp_loop_rounds 2 ?_
  rw [rounds_succ]
  go_wp2_with fail
  refine HE.out.mono ?_
  rintro e w3 ⟨hk3, t, x, rfl, hR⟩
  have hk : KT B rb w w3 := (KT.ofBelow BB.out).trans hk3
  have hz := hk3.at H0.out.1 (by decide) (by omega)
  have g0 : w3.cell? ⟨w.heap.size, 0, none⟩ = some (.int .i64 0) := (cellO hz).trans rfl
  have y0 : w3.frozen? ⟨w.heap.size, 0, none⟩ = false := looseO hz
  have HK := hidd hk
  have HZ := hidd hz
  clear hk3 BB H0 HE HEV k0 k1 hz hk
  have HR := hidd (HST.out w.heap.size 1 w3 HZ.out hR)
  clear HST hR HZ
  go_wp2_with fail
  rw [rounds_succ]
  go_wp2_with fail
  rw [rounds_succ]
  go_wp2_with fail
  refine leaves_cons (f := 26) (args := #[.pointer (some ⟨w.heap.size, 0, none⟩)]) (by simp) (by simp [go_sem]) ?_
  refine (catch_idle _ _).mono ?_
  rintro e u' w4 ⟨rfl, rfl, rfl⟩
  have hkk := HK.out.setNew ⟨w.heap.size, 0, none⟩ (Nat.le_refl _) (.int .i64 1)
  simp [Leaves, settle, results, Tryd.results21, go_sem, g0, hkk, HR.out]
set_option maxRecDepth 100000 in
set_option maxHeartbeats 3200000 in
theorem Run_stK (pb : Nat) (how st : Int) (hs0 : 0 ≤ st) (hs9 : st ≤ 1000000) (P : Option Addr → Nat → Nat → World → Prop) (w : World)
    (hP : ∀ a n c N q y v W, W.cell? ⟨N, 0, none⟩ = some (.int .i64 y) → P a n c W → P a n c (W.setCell ⟨N, q, none⟩ v))
    (HW : ∀ W, Below w.heap.size w W → Calls Tryd.prog 10 #[.slice (some ⟨pb, 0, none⟩) 1 1] W fun e w' => e = .returned (fv (0, 0)) ∧ Below W.heap.size W w')
    (HR : ∀ rb gm W, Below w.heap.size w W → w.heap.size ≤ rb → rb < W.heap.size → RN rb (.slice none 0 0) st 0 gm W → Calls Tryd.prog 21 #[.pointer (some ⟨rb, 0, none⟩), .slice (some ⟨pb, 0, none⟩) 1 1] W fun e w' => e = .returned (.int .i64 how) ∧ KT w.heap.size rb W w' ∧ ∃ a n c left calls, RN rb (.slice a n c) left calls gm w' ∧ P a n c w') :
    Calls Tryd.prog 8 #[.slice (some ⟨pb, 0, none⟩) 1 1, .int .i64 st] w fun e w' => Below w.heap.size w w' ∧ ∃ a n c, e = .returned (.tuple #[.agg #[.int .i64 how, .slice a n c], fv (0, 0)]) ∧ P a n c w' := by
  have HWH := hidd HW
  have HRH := hidd HR
  clear HW HR
  have HPP := hidd hP
  clear hP
  have hg1 : decide (st < 0) = false := by simp; omega
  have hg2 : decide (st > 1000000) = false := by simp; omega
  have hg3 : decide (1000000 < st) = false := by simp; omega
  clear hs0 hs9
  have hmm := @run_makeMap Tryd.prog
  unfold fv at *
  go_enter Tryd.func8, Tryd.ntmps8
  go_wp2_with fail
  refine (HWH.out _ (((Below.refl _ _).alloc (Nat.le_refl _) _).alloc (by simp) _)).mono ?_
  rintro e w1 ⟨rfl, hb1⟩
  obtain ⟨W0, hW0⟩ : ∃ W0, W0 = (w.alloc (.cells #[.int .i64 0, .slice none 0 0] 25)).alloc (.cells #[.int .i64 0, .int .i64 0] 28) := ⟨_, rfl⟩
  have hbW0 : Below w.heap.size w W0 := by rw [hW0]; exact ((Below.refl _ _).alloc (Nat.le_refl _) _).alloc (by simp) _
  have hs0 : W0.heap.size = w.heap.size + 2 := by rw [hW0]; simp
  have a0 : W0.heap[w.heap.size]? = some (.cells #[.int .i64 0, .slice none 0 0] 25 (0, 0)) := by rw [hW0, Below.heap_alloc _ _ _ (alloc_lt _ _)]; exact World.alloc_heap_new w _
  have a1 : W0.heap[w.heap.size + 1]? = some (.cells #[.int .i64 0, .int .i64 0] 28 (0, 0)) := by
    rw [hW0]
    have := World.alloc_heap_new (w.alloc (.cells #[.int .i64 0, .slice none 0 0] 25)) (.cells #[.int .i64 0, .int .i64 0] 28)
    simpa using this
  rw [← hW0] at hb1
  clear hW0
  have BW : Hid (Below W0.heap.size W0 (((w1.alloc (.cells #[.int .i64 0, .int .i64 0] 28)).alloc (.map #[] 0)).alloc (.cells #[.slice none 0 0, .int .i64 st, .int .i64 0, .map (some (w1.heap.size + 1))] 59))) := ((hb1.alloc hb1.size _).alloc (by have := hb1.size; simp; omega) _).alloc (by have := hb1.size; simp; omega) _
  have hs1 := hb1.size
  have SZ : Hid ((((w1.alloc (.cells #[.int .i64 0, .int .i64 0] 28)).alloc (.map #[] 0)).alloc (.cells #[.slice none 0 0, .int .i64 st, .int .i64 0, .map (some (w1.heap.size + 1))] 59)).heap.size = w1.heap.size + 3) := by show _ = _; simp
  have RW : Hid (RN (w1.heap.size + 1 + 1) (.slice none 0 0) st 0 (.map (some (w1.heap.size + 1))) (((w1.alloc (.cells #[.int .i64 0, .int .i64 0] 28)).alloc (.map #[] 0)).alloc (.cells #[.slice none 0 0, .int .i64 st, .int .i64 0, .map (some (w1.heap.size + 1))] 59))) := by
    have := World.alloc_heap_new ((w1.alloc (.cells #[.int .i64 0, .int .i64 0] 28)).alloc (.map #[] 0)) (.cells #[.slice none 0 0, .int .i64 st, .int .i64 0, .map (some (w1.heap.size + 1))] 59)
    simpa [RN, Hid] using this
  have HRR := hidd (HRH.out (w1.heap.size + 1 + 1) (.map (some (w1.heap.size + 1))) _ (hbW0.trans (BW.out.mono (by omega))) (by omega) (by rw [SZ.out]; omega) RW.out)
  clear HRH RW hb1 HWH
  go_wp2_with fail
  refine HRR.out.mono ?_
  rintro e w3 ⟨rfl, hk3, a, n, c, left, calls, hr3, hp3⟩
  have hA : w3.heap[w.heap.size]? = some (.cells #[.int .i64 0, .slice none 0 0] 25 (0, 0)) := hk3.at ((BW.out.block _ (by omega)).trans a0) (by decide) (by omega)
  have hA1 : w3.heap[w.heap.size + 1]? = some (.cells #[.int .i64 0, .int .i64 0] 28 (0, 0)) := hk3.at ((BW.out.block _ (by omega)).trans a1) (by decide) (by omega)
  have BF : Hid (Below w.heap.size w w3) := (hbW0.trans (BW.out.mono (by omega))).trans (hk3.toBelow (by omega) (by rw [SZ.out]; omega))
  have c0 : w3.cell? ⟨w.heap.size, 0, none⟩ = some (.int .i64 0) := (cellO hA).trans rfl
  have c1 : w3.cell? ⟨w.heap.size, 1, none⟩ = some (.slice none 0 0) := (cellO hA).trans rfl
  have d0 : w3.cell? ⟨w.heap.size + 1, 0, none⟩ = some (.int .i64 0) := (cellO hA1).trans rfl
  have d1 : w3.cell? ⟨w.heap.size + 1, 1, none⟩ = some (.int .i64 0) := (cellO hA1).trans rfl
  have f0 : w3.frozen? ⟨w.heap.size, 0, none⟩ = false := looseO hA
  have f1 : w3.frozen? ⟨w.heap.size, 1, none⟩ = false := looseO hA
  have g0 : w3.frozen? ⟨w.heap.size + 1, 0, none⟩ = false := looseO hA1
  have g1 : w3.frozen? ⟨w.heap.size + 1, 1, none⟩ = false := looseO hA1
  have r0 : w3.cell? ⟨w1.heap.size + 1 + 1, 0, none⟩ = some (.slice a n c) := (cellO hr3).trans rfl
  have PF := hidd hp3
  clear hk3 hA hA1 hr3 hp3 a0 a1 BW HRR hbW0
  go_wp2_with fail
  have PX : Hid (P a n c ((((w3.setCell ⟨w.heap.size, 0, none⟩ (.int .i64 how)).setCell ⟨w.heap.size, 1, none⟩ (.slice a n c)).setCell ⟨w.heap.size + 1, 0, none⟩ (.int .i64 0)).setCell ⟨w.heap.size + 1, 1, none⟩ (.int .i64 0))) := by
    refine HPP.out _ _ _ _ _ 0 _ _ (by simp [go_sem, c0, d0, d1]) (HPP.out _ _ _ _ _ 0 _ _ (by simp [go_sem, c0, d0, d1]) (HPP.out _ _ _ _ _ how _ _ (by simp [go_sem, c0, d0, d1]) (HPP.out _ _ _ _ _ 0 _ _ c0 PF.out)))
  refine bodyPost_ret (v := .tuple #[.agg #[.int .i64 how, .slice a n c], .agg #[.int .i64 0, .int .i64 0]]) (by simp [results, Tryd.results8, go_sem, c0, c1, d0, d1]) rfl ⟨?_, a, n, c, rfl, PX.out⟩
  exact (((BF.out.setCell (p := ⟨w.heap.size, 0, none⟩) (Nat.le_refl _) _).setCell (p := ⟨w.heap.size, 1, none⟩) (Nat.le_refl _) _).setCell (p := ⟨w.heap.size + 1, 0, none⟩) (Nat.le_succ _) _).setCell (p := ⟨w.heap.size + 1, 1, none⟩) (Nat.le_succ _) _
theorem Dc.up {B B' : Nat} {w : World} (hB : B ≤ B') {f : Nat} {a : Option Addr} {ds : List Dat} (h : Dc (fun k => k < B) w f a ds) : Dc (fun k => k < B') w f a ds := Dc.stay (fun _ _ => rfl) (fun k hk => by omega) f a ds h
theorem Cc.up {B B' : Nat} {w : World} (hB : B ≤ B') : ∀ (f : Nat) (a : Option Addr) (cs : List Cor), Cc B w f a cs → Cc B' w f a cs
  | 0, _, _, h => h
  | f + 1, a, cs, h => by
    obtain ⟨hl, h⟩ := h
    refine ⟨hl, ?_⟩
    rcases h with h | ⟨b, o, ha, hb, h⟩
    · exact Or.inl h
    · refine Or.inr ⟨b, o, ha, by omega, fun i c hc => ?_⟩
      obtain ⟨qa, qc, ka, kc, h1, h2, h3, h4⟩ := h i c hc
      exact ⟨qa, qc, ka, kc, h1, h2, h3.up hB, Cc.up hB f ka _ h4⟩
theorem Cn.up {B B' : Nat} {w : World} {f b o : Nat} {c : Cor} (h : Cn B w f b o c) (hB : B ≤ B') : Cn B' w f b o c := by
  obtain ⟨hb, qa, qc, ka, kc, h1, h2, h3, h4⟩ := h
  exact ⟨by omega, qa, qc, ka, kc, h1, h2, h3.up hB, Cc.up hB f ka _ h4⟩
/-- What a run has told of its texts. -/
def TM (txs : List (List UInt8)) (a : Option Addr) (n c : Nat) (W : World) : Prop := n = txs.length ∧ n ≤ c ∧ (txs = [] ∨ ∃ G, a = some ⟨G, 0, none⟩ ∧ ∀ j s, txs[j]? = some s → W.cell? ⟨G, j, none⟩ = some (strV s))
theorem TM.set {txs : List (List UInt8)} {a : Option Addr} {n c N q : Nat} {y : Int} {v : Value} {W : World} (hc : W.cell? ⟨N, 0, none⟩ = some (.int .i64 y)) (h : TM txs a n c W) : TM txs a n c (W.setCell ⟨N, q, none⟩ v) := by
  obtain ⟨h1, h0, h2⟩ := h
  refine ⟨h1, h0, ?_⟩
  rcases h2 with h2 | ⟨G, h3, h4⟩
  · exact Or.inl h2
  · by_cases ht : txs = []
    · exact Or.inl ht
    refine Or.inr ⟨G, h3, fun j s hj => ?_⟩
    have hne : G ≠ N := by
      rintro rfl
      obtain ⟨t, r, rfl⟩ := List.exists_cons_of_ne_nil ht
      have := h4 0 t rfl
      rw [this] at hc
      cases hc
    exact (World.cell?_of_block (Below.heap_setCell _ _ _ _ (by simpa using hne))).trans (h4 j s hj)
theorem TM.up {txs : List (List UInt8)} {a : Option Addr} {n c : Nat} {W W' : World} (h : TM txs a n c W) (hb : Below W.heap.size W W') : TM txs a n c W' := by
  obtain ⟨h1, h0, h2⟩ := h
  refine ⟨h1, h0, ?_⟩
  rcases h2 with h2 | ⟨G, h3, h4⟩
  · exact Or.inl h2
  · exact Or.inr ⟨G, h3, fun j s hj => (hb.cell (p := ⟨G, j, none⟩) (cell_lt (h4 j s hj))).trans (h4 j s hj)⟩
theorem TM.of {B : Nat} {txs : List (List UInt8)} {tv : Value} {W : World} (h : W.ownsRow B 9 1 tv txs.length (txs.map strV)) : ∃ a c, tv = .slice a txs.length c ∧ TM txs a txs.length c W := by
  have h' := h
  obtain ⟨a, c, rfl, hc⟩ := own_slice h'
  refine ⟨a, c, rfl, rfl, hc, ?_⟩
  rcases h.2 with ⟨e, h0⟩ | ⟨g, cap, cur, e, _⟩
  · exact Or.inl (List.eq_nil_of_length_eq_zero h0)
  · cases e
    refine Or.inr ⟨g, rfl, fun j s hj => ?_⟩
    have := h.cells (g := g) rfl j (strV s) (by rw [List.getElem?_map, hj]; rfl)
    rw [add_lit0] at this
    exact this
/-- Run, of a part that puts numbers out, from the left. -/
theorem Run_left (ns : List Int) (B g T pb cb co ccap : Nat) (nm : ByteArray) (w : World) (hl : Cc B w (g + 1) (some ⟨cb, co, none⟩) [corL ns]) (hB : B ≤ w.heap.size) (hcc : 1 ≤ ccap) (hn : ns.length ≤ 30)
    (hp : w.heap[pb]? = some (.cells #[.string nm, .slice (some ⟨cb, co, none⟩) 1 ccap] 39 (0, 0))) (ht : Tab T w) (hT : T ≤ w.heap.size) (h1 : ∀ n ∈ ns, rangeN n = true) (hw : wrongB [corL ns] = 0) :
    Calls Tryd.prog 8 #[.slice (some ⟨pb, 0, none⟩) 1 1, .int .i64 500] w fun e w' => Below w.heap.size w w' ∧ ∃ a n c, e = .returned (.tuple #[.agg #[.int .i64 1, .slice a n c], fv (0, 0)]) ∧ TM (ns.map Lib.itoa) a n c w' := by
  obtain ⟨hpb, p0, p1⟩ := part_cells hp
  have hC : ∀ W, Below w.heap.size w W → Cn w.heap.size W g cb co (corL ns) := fun W hb => by
    obtain ⟨g', b', o', e1, e2, hh⟩ := hl.at (by simp)
    cases e1
    cases e2
    have := ((hh 0 _ rfl).up hB).below hb
    simpa using this
  refine Run_stK pb 1 500 (by omega) (by omega) (TM (ns.map Lib.itoa)) w (fun a n c N q y' v W hc h => h.set hc) ?_ ?_
  · intro W hb
    have := Wrong1 B (g + 1) pb nm [corL ns] (some ⟨cb, co, none⟩) ccap W (hl.below (hb.mono hB)) (Nat.le_trans hB hb.size) hcc ((hb.block pb hpb).trans hp)
    rw [hw] at this
    exact this
  · intro rb gm W hb hrb hrW hR
    have hsz := hb.size
    refine (run_oneK w.heap.size rb pb 0 1 cb co ccap nm (RT w.heap.size rb (ns.map Lib.itoa) (500 - 2 - 3 * ns.length - 1) 0 gm) W hrW ((hb.cell (p := ⟨pb, 0, none⟩) hpb).trans p0) ((hb.cell (p := ⟨pb, 0 + 1, none⟩) hpb).trans p1) (by omega) ?_ ?_).mono ?_
    · intro N z W1 hN h
      obtain ⟨tv, hRN⟩ := h.rn
      exact h.set hN (by decide) (fun e => (ne_type hN hRN (by decide)) e.symm)
    · intro W2 fb hb2 hF
      have hs2 := hb2.size
      have hb0 := hb.trans (hb2.mono hsz)
      have hRT : RT w.heap.size rb [] 500 0 gm W2 := ⟨.slice none 0 0, RN.stay (hb2.block rb hrW) hR, World.ownsRow_nil _ _ _ _⟩
      exact eval_left w.heap.size T ns g rb cb co fb gm 500 W2 hRT hn (by omega) (by omega) hrb (by omega) (hC W2 hb0) hF (ht.below (hb0.mono hT)) hT h1
    · rintro e w' ⟨rfl, hk, tv, hr, ho⟩
      obtain ⟨a, c, rfl, htm⟩ := TM.of ho
      rw [List.length_map] at hr htm
      exact ⟨rfl, hk, a, _, c, _, _, hr, htm⟩
end
end Go.Proofs.YthooljlikllnpaaDoor
