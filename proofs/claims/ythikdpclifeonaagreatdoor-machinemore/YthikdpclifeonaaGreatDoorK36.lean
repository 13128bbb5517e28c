/- Chapter 11: any primitive Chapter 11: the machine's stack in memory: a value more; what is kept. Chapter 11: the machine's stack in memory: what is on top, what is taken. Chapter 11: globals; who waits. Chapter 11: the store stays, where the runner's other cells and a row of the machine's change. -/
import Derived.RegionDies
import Derived.Test.YthikdpclifeonaaGreatDoorK35
namespace Go.Proofs.YthikdpclifeonaaGreatDoor.V
section
set_option linter.unusedVariables false
set_option linter.unusedSimpArgs false
open Go.RowKit
open Go.Proofs.YthikdpclifeonaaGreatDoor

theorem argsTab_le (o : ByteArray) : ∀ (l : List (ByteArray × Int)), (∀ x ∈ l, x.2 = 1 ∨ x.2 = 2) → argsTab l o = 0 ∨ argsTab l o = 1 ∨ argsTab l o = 2
  | [], _ => Or.inl rfl
  | (s, n) :: r, h => by
    rw [argsTab]
    split
    · exact Or.inr (h (s, n) (by simp))
    · exact argsTab_le o r (fun x hx => h x (by simp [hx]))
theorem args_le (p : ByteArray) : argsB p = 0 ∨ argsB p = 1 ∨ argsB p = 2 := argsTab_le p primTab (by
  intro x hx
  simp only [primTab, List.mem_cons, List.not_mem_nil, or_false] at hx
  rcases hx with rfl | rfl | rfl | rfl | rfl | rfl | rfl | rfl | rfl | rfl | rfl | rfl | rfl <;> simp)
theorem ToldR.two {B rb : Nat} {gb : Rc} {m : Mm} {w w' : World} {r : Res Val × St} {e : Ending} (h : ToldR B rb gb m w r e w') : (∃ t x, e = .returned (.iface t x)) ∨ ∃ q, e = .panicked q := by
  obtain ⟨m', _, _, _, h⟩ := h
  cases hr : r.1 with
  | ok v => rw [hr] at h; exact Or.inl ⟨_, _, h.1⟩
  | bad q => rw [hr] at h; exact Or.inr ⟨_, h⟩
theorem ToldR.ok {B rb : Nat} {gb : Rc} {m : Mm} {w w' : World} {v : Val} {σ : St} {e : Ending} (h : ToldR B rb gb m w (.ok v, σ) e w') : ∃ t x, e = .returned (.iface t x) := by
  obtain ⟨m', _, _, _, h⟩ := h
  exact ⟨_, _, h.1⟩
theorem ToldR.bad {B rb : Nat} {gb : Rc} {m : Mm} {w w' : World} {q : Int} {σ : St} {e : Ending} (h : ToldR B rb gb m w (.bad q, σ) e w') : e = .panicked (endP q) := by
  obtain ⟨m', _, _, _, h⟩ := h
  exact h
theorem ToldR.drew {B rb : Nat} {gb : Rc} {m : Mm} {w w' : World} {r : Res Val × St} {e : Ending} (h : ToldR B rb gb m w.drew r e w') : ToldR B rb gb m w r e w' := by
  obtain ⟨m', h1, h2, h3, h4⟩ := h
  exact ⟨m', h1, ⟨h2.x, h2.pr, h2.rw⟩, (KR.ofBelow (Below.drew (Below.refl _ _))).trans (New.refl m w) h3, h4⟩
set_option maxRecDepth 100000 in
set_option maxHeartbeats 1600000 in
theorem prim_one (B rb : Nat) (gb : Rc) (m : Mm) (σ : St) (p : ByteArray) (a : Val) (N o c : Nat) (w : World) (h : Rel B rb gb m σ w) (hs : B ≤ w.heap.size) (hp : argsB p = 1) (ho : ¬ p = outF) (ha : VOk m a) (k0 : w.cell? ⟨N, o, none⟩ = some (.iface (vT a) (vX m a))) :
    Calls Tryz.prog 108 #[.pointer (some ⟨rb, 0, none⟩), .string p, .slice (some ⟨N, o, none⟩) 1 c] w (ToldR B rb gb m w (oneF p a σ)) := by
  have OT := hidd (ofOne_any B rb gb m σ p a w h hs ha)
  have AR : Hid (∀ w, Calls Tryz.prog 124 #[.string p] w fun e w' => e = .returned (.int .i64 1) ∧ w' = w) := fun w => by
    have := argsOf_any p w
    rw [hp] at this
    exact this
  have c1 : (p.toList == [111, 117, 116]) = false := neP ho
  generalize oneF p a σ = R at *
  generalize vT a = t at *
  generalize vX m a = x at *
  clear h ha hp ho
  go_enter Tryz.func108, Tryz.ntmps108
  go_wp2_with fail
  refine (AR.out _).mono ?_
  rintro e w1 ⟨rfl, rfl⟩
  go_wp2_with fail
  refine (Must_yes _ _).mono ?_
  rintro e w1 ⟨rfl, rfl⟩
  go_wp2_with fail
  refine OT.out.mono ?_
  intro e w2 hT
  have HT := hidd hT
  rcases hT.two with ⟨t2, x2, rfl⟩ | ⟨q, rfl⟩
  · clear hT
    go_wp2_with fail
    go_ret
    exact HT.out
  · clear hT
    go_wp2_with fail
    exact ⟨rfl, HT.out⟩
set_option maxRecDepth 100000 in
set_option maxHeartbeats 1600000 in
theorem prim_put (B rb : Nat) (gb : Rc) (T : Nat) (m : Mm) (σ : St) (a : Val) (N o c : Nat) (cs : Array Value) (w : World) (h : Rel B rb gb m σ w) (hs : B ≤ w.heap.size) (hT : T ≤ B) (tab : Tab T w) (ha : VOk m a) (hN : w.heap[N]? = some (.cells cs 155 (0, 0))) (hNr : N ∉ m.rw) (k0 : cs[o]? = some (.iface (vT a) (vX m a))) :
    Calls Tryz.prog 108 #[.pointer (some ⟨rb, 0, none⟩), .string outF, .slice (some ⟨N, o, none⟩) 1 c] w (ToldR B rb gb m w (putF a σ)) := by
  have OT : Hid (Calls Tryz.prog 125 #[.pointer (some ⟨rb, 0, none⟩), .iface (vT a) (vX m a)] w fun e w' => (e = .returned (.tuple #[]) ∧ w'.cell? ⟨N, o, none⟩ = some (.iface (vT a) (vX m a)) ∧ ToldR B rb gb m w (putF a σ) (.returned (.iface (vT a) (vX m a))) w') ∨ ∃ q, e = .panicked q ∧ ToldR B rb gb m w (putF a σ) (.panicked q) w') := by
    refine (put_any B rb gb T m σ a w h hs hT tab ha).mono ?_
    rintro e w' ⟨m2, r2, n2, k2, he⟩
    cases hr : (putF a σ).1 with
    | bad q =>
      rw [hr] at he
      refine Or.inr ⟨_, he, m2, r2, n2, k2, ?_⟩
      rw [hr]
    | ok v =>
      rw [hr] at he
      have hv : v = a := by
        unfold putF at hr
        split at hr
        · cases hs : showF 1000 a ⟨[], 0⟩ σ with
          | mk x s =>
            rw [hs] at hr
            cases x with
            | ok x => simp only [Res.ok.injEq] at hr; exact hr.symm
            | bad q => cases hr
        · cases hr
      subst hv
      refine Or.inl ⟨he, (cellO (k2.row h hN hNr)).trans k0, m2, r2, n2, k2, ?_⟩
      rw [hr]
      exact ⟨by rw [vX_up ha n2.x], ha.up n2.x⟩
  have AR : Hid (∀ w, Calls Tryz.prog 124 #[.string ⟨#[111, 117, 116]⟩] w fun e w' => e = .returned (.int .i64 1) ∧ w' = w) := fun w => by
    have := argsOf_any outF w
    rw [show argsB outF = 1 by decide +kernel] at this
    exact this
  have c0 : w.cell? ⟨N, o, none⟩ = some (.iface (vT a) (vX m a)) := (cellO hN).trans k0
  unfold outF
  generalize putF a σ = R at *
  generalize vT a = t at *
  generalize vX m a = x at *
  clear h ha hN hNr tab k0
  go_enter Tryz.func108, Tryz.ntmps108
  go_wp2_with fail
  refine (AR.out _).mono ?_
  rintro e w1 ⟨rfl, rfl⟩
  go_wp2_with fail
  refine (Must_yes _ _).mono ?_
  rintro e w1 ⟨rfl, rfl⟩
  go_wp2_with fail
  refine OT.out.mono ?_
  intro e w2 hX
  rcases hX with ⟨rfl, d0, hX⟩ | ⟨q, rfl, hX⟩
  · have HX := hidd hX
    clear hX
    go_wp2_with fail
    go_ret
    exact HX.out
  · have HX := hidd hX
    clear hX
    go_wp2_with fail
    exact ⟨rfl, HX.out⟩
set_option maxRecDepth 100000 in
set_option maxHeartbeats 3200000 in
theorem prim_twos (B rb : Nat) (gb : Rc) (m : Mm) (σ : St) (p : ByteArray) (a b : Val) (N o c : Nat) (w : World) (h : Rel B rb gb m σ w) (hs : B ≤ w.heap.size) (hp : argsB p = 2) (ha : VOk m a) (hb : VOk m b) (k0 : w.cell? ⟨N, o, none⟩ = some (.iface (vT a) (vX m a))) (k1 : w.cell? ⟨N, o + 1, none⟩ = some (.iface (vT b) (vX m b))) :
    Calls Tryz.prog 108 #[.pointer (some ⟨rb, 0, none⟩), .string p, .slice (some ⟨N, o, none⟩) 2 c] w (ToldR B rb gb m w (twoF p a b σ)) := by
  have OT : Hid (Calls Tryz.prog 127 #[.string p, .iface (vT a) (vX m a), .iface (vT b) (vX m b)] w.drew (ToldR B rb gb m w.drew (twoF p a b σ))) := ofTwo_any B rb gb m σ p a b w.drew (h.below (Below.drew (Below.refl _ _)) hs) hs ha hb
  have AR : Hid (∀ w, Calls Tryz.prog 124 #[.string p] w fun e w' => e = .returned (.int .i64 2) ∧ w' = w) := fun w => by
    have := argsOf_any p w
    rw [hp] at this
    exact this
  have ho : ¬ p = outF := by
    rintro rfl
    exact absurd hp (by decide +kernel)
  have c1 : (p.toList == [111, 117, 116]) = false := neP ho
  generalize vT a = ta at *
  generalize vX m a = xa at *
  generalize vT b = tb at *
  generalize vX m b = xb at *
  clear h ha hb hp ho
  cases hR : twoF p a b σ with
  | mk R σ1 =>
    rw [hR] at OT
    clear hR
    cases R with
    | bad q =>
      go_enter Tryz.func108, Tryz.ntmps108
      go_wp2_with fail
      refine (AR.out _).mono ?_
      rintro e w1 ⟨rfl, rfl⟩
      go_wp2_with fail
      refine (Must_yes _ _).mono ?_
      rintro e w1 ⟨rfl, rfl⟩
      go_wp2_with fail
      go_region_dies
      all_goals
        refine OT.out.mono ?_
        intro e w2 hT
        obtain rfl := hT.bad
        have HT := hidd hT.drew
        clear hT
        go_wp2_with fail
        exact ⟨rfl, HT.out⟩
    | ok v =>
      go_enter Tryz.func108, Tryz.ntmps108
      go_wp2_with fail
      refine (AR.out _).mono ?_
      rintro e w1 ⟨rfl, rfl⟩
      go_wp2_with fail
      refine (Must_yes _ _).mono ?_
      rintro e w1 ⟨rfl, rfl⟩
      go_wp2_with fail
      go_region_with (go_at_call 127; refine OT.out.mono ?_; intro e w2 hT; obtain ⟨t2, x2, rfl⟩ := hT.ok; have HT := hidd hT.drew; clear hT)
      all_goals
        go_wp2_with fail
        go_ret
        exact HT.out
set_option maxRecDepth 100000 in
set_option maxHeartbeats 1600000 in
theorem prim_few (B rb : Nat) (gb : Rc) (m : Mm) (σ : St) (p : ByteArray) (n c : Nat) (a : Option Addr) (w : World) (h : Rel B rb gb m σ w) (hn : n ≤ 3000) (hp : ¬ (n : Int) = argsB p) :
    Calls Tryz.prog 108 #[.pointer (some ⟨rb, 0, none⟩), .string p, .slice a n c] w (ToldR B rb gb m w (.bad 5, σ)) := by
  have HE : Hid (ToldR B rb gb m w (.bad 5, σ) (.panicked (endP 5)) w) := ⟨m, h, New.refl m w, KR.refl _ _ _ _ _, rfl⟩
  have AR := hidd (argsOf_any p)
  generalize argsB p = k at *
  have hd : ((n : Int) == k) = false := by simpa using hp
  clear h hp
  go_enter Tryz.func108, Tryz.ntmps108
  go_wp2_with fail
  refine (AR.out _).mono ?_
  rintro e w1 ⟨rfl, rfl⟩
  go_wp2_with fail
  refine (Must_no _ _).mono ?_
  rintro e w1 ⟨rfl, rfl⟩
  go_wp2_with fail
  exact ⟨rfl, HE.out⟩
/-- ANY PRIMITIVE IS CALLED as primF says. -/
theorem prim_any (B rb : Nat) (gb : Rc) (T : Nat) (m : Mm) (σ : St) (p : ByteArray) (vs : List Val) (N ao c : Nat) (cs : Array Value) (a : Option Addr) (w : World) (h : Rel B rb gb m σ w) (hs : B ≤ w.heap.size) (hT : T ≤ B) (tab : Tab T w) (hp : argsB p ≠ 0) (hv : ∀ v ∈ vs, VOk m v)
    (hN : w.heap[N]? = some (.cells cs 155 (0, 0))) (hNr : N ∉ m.rw) (hcs : ∀ i v, vs[i]? = some v → cs[ao + i]? = some (vV m v)) (ha : vs ≠ [] → a = some ⟨N, ao, none⟩) (hn : vs.length ≤ 3000) :
    Calls Tryz.prog 108 #[.pointer (some ⟨rb, 0, none⟩), .string p, .slice a vs.length c] w (ToldR B rb gb m w (primF p vs σ)) := by
  unfold primF
  by_cases hl : (vs.length : Int) = argsB p
  · rw [if_pos hl]
    rcases args_le p with h0 | h1 | h2
    · exact absurd h0 hp
    · match vs, hl with
      | [], hl => rw [h1] at hl; simp at hl
      | [x], hl =>
        obtain rfl := ha (by simp)
        have k0 := hcs 0 x rfl
        simp only
        by_cases ho : p = outF
        · rw [if_pos ho]
          subst ho
          exact prim_put B rb gb T m σ x N ao c cs w h hs hT tab (hv x (by simp)) hN hNr k0
        · rw [if_neg ho]
          exact prim_one B rb gb m σ p x N ao c w h hs h1 ho (hv x (by simp)) ((cellO hN).trans k0)
      | x :: y :: r, hl => rw [h1] at hl; simp at hl; omega
    · match vs, hl with
      | [], hl => rw [h2] at hl; simp at hl
      | [x], hl => rw [h2] at hl; simp at hl
      | [x, y], hl =>
        obtain rfl := ha (by simp)
        exact prim_twos B rb gb m σ p x y N ao c w h hs h2 (hv x (by simp)) (hv y (by simp)) ((cellO hN).trans (hcs 0 x rfl)) ((cellO hN).trans (hcs 1 y rfl))
      | x :: y :: z :: r, hl => rw [h2] at hl; simp at hl; omega
  · rw [if_neg hl]
    exact prim_few B rb gb m σ p vs.length c a w h hn hl
end
section
set_option linter.unusedVariables false
set_option linter.unusedSimpArgs false
open Go.RowKit
open Go.Proofs.YthikdpclifeonaaGreatDoor

/-- All is kept but the runner and one row. -/
structure KM (rb : Nat) (row : Option Nat) (w w' : World) : Prop where
  os : w'.os = w.os
  tape : w'.tape = w.tape
  output : w'.output = w.output
  size : w.heap.size ≤ w'.heap.size
  block : ∀ k, k < w.heap.size → k ≠ rb → some k ≠ row → w'.heap[k]? = w.heap[k]?
theorem KM.ofBelow {rb : Nat} {row : Option Nat} {w w' : World} (h : Below w.heap.size w w') : KM rb row w w' := ⟨h.os, h.tape, h.output, h.size, fun k hk _ _ => h.block k hk⟩
theorem KM.ofSet {rb q : Nat} {row : Option Nat} {w : World} (v : Value) : KM rb row w (w.setCell ⟨rb, q, none⟩ v) := ⟨rfl, rfl, rfl, by simp, fun k _ hk _ => Below.heap_setCell _ _ _ _ (by simpa using hk)⟩
theorem KM.trans {rb : Nat} {row row' : Option Nat} {a b c : World} (h : KM rb row a b) (k : KM rb row' b c) (hr : ∀ g, row' = some g → row = some g ∨ a.heap.size ≤ g) : KM rb row a c :=
  ⟨k.os.trans h.os, k.tape.trans h.tape, k.output.trans h.output, Nat.le_trans h.size k.size, fun i hi h1 h2 => by
    refine (k.block i (Nat.lt_of_lt_of_le hi h.size) h1 (fun e => ?_)).trans (h.block i hi h1 h2)
    rcases hr i e.symm with q | q
    · exact h2 q.symm
    · omega⟩
theorem KM.ofGrown {rb : Nat} {row : Option Nat} {w w' : World} (h : w.grownBy w' row) : KM rb row w w' := ⟨h.os, h.tape, h.output, h.size, fun k hk _ hr => h.block k hk hr⟩
theorem KM.below {B rb : Nat} {row : Option Nat} {w w' : World} (h : KM rb row w w') (hB : B ≤ rb) (hs : B ≤ w.heap.size) (hr : ∀ g, row = some g → B ≤ g) : Below B w w' := ⟨h.os, h.tape, h.output, h.size, fun k hk => h.block k (by omega) (by omega) (fun e => by have := hr k e.symm; omega)⟩
theorem one_newsV (w : World) (v : Value) : ∀ j u, [v][j]? = some u → (w.alloc (.cells #[v] 155)).cell? ((⟨w.heap.size, 0, none⟩ : Addr).add j) = some u := by
  intro j u hj
  rw [add_lit0]
  match j, hj with
  | 0, hj =>
    simp at hj
    subst hj
    exact (cellO (World.alloc_heap_new w _)).trans rfl
theorem RN.at1 {rb : Nat} {tv : Value} {gb : Rc} {w : World} (h : RN rb tv gb w) : w.cell? ⟨rb, 1, none⟩ = some gb.stack := (cellO h).trans rfl
theorem RN.set1 {rb : Nat} {tv : Value} {gb : Rc} {w : World} (h : RN rb tv gb w) (v : Value) : RN rb tv { gb with stack := v } (w.setCell ⟨rb, 1, none⟩ v) := by
  show (w.setCell ⟨rb, 1, none⟩ v).heap[rb]? = _
  rw [cell_setV (show w.heap[rb]? = some (.cells _ 65 (0, 0)) from h)]
  rfl
theorem own_ne155 {w : World} {B rb : Nat} {v tv : Value} {n : Nat} {xs : List Value} {gb : Rc} (h : w.ownsRow B 155 1 v n xs) (hr : RN rb tv gb w) : v.ownBlock ≠ some rb := by
  intro e
  obtain ⟨_, _, cs, hc⟩ := own_type h rb e
  rw [show w.heap[rb]? = _ from hr] at hc
  simp at hc
/-- What is told of a push. -/
def ToldPush (B rb : Nat) (tv : Value) (gb : Rc) (n : Nat) (xs : List Value) (v : Value) (w : World) (e : Ending) (w' : World) : Prop :=
  e = .returned (.tuple #[]) ∧ ∃ gv, RN rb tv { gb with stack := gv } w' ∧ w'.ownsRow B 155 1 gv (n + 1) (xs ++ [v]) ∧ KM rb gb.stack.ownBlock w w' ∧ ∀ g, gv.ownBlock = some g → gb.stack.ownBlock = some g ∨ w.heap.size ≤ g
theorem push_end {B rb n g cap : Nat} {tv v : Value} {gb : Rc} {xs : List Value} {w w4 : World} (hR : RN rb tv gb w) (hO : w.ownsRow B 155 1 gb.stack n xs) (hown : w4.ownsRow B 155 1 (.slice (some ⟨g, 0, none⟩) (n + 1) cap) (n + 1) (xs ++ [v])) (hgrow : (w.alloc (.cells #[v] 155)).grownBy w4 gb.stack.ownBlock) (hat : gb.stack.ownBlock = some g ∨ g = w.heap.size + 1) :
    ToldPush B rb tv gb n xs v w (.returned (.tuple #[])) (w4.setCell ⟨rb, 1, none⟩ (.slice (some ⟨g, 0, none⟩) (n + 1) cap)) := by
  have hrb : rb < w.heap.size := (Array.getElem?_eq_some_iff.1 hR).1
  have hba : Below w.heap.size w (w.alloc (.cells #[v] 155)) := (Below.refl _ _).alloc (Nat.le_refl _) _
  have hne := own_ne155 hO hR
  have hR4 : RN rb tv gb w4 := (hgrow.block rb (Nat.lt_of_lt_of_le hrb hba.size) (fun e => hne e.symm)).trans ((hba.block rb hrb).trans hR)
  have hne4 := own_ne155 hown hR4
  refine ⟨rfl, _, hR4.set1 _, ?_, ?_, fun q hq => ?_⟩
  · exact hown.kept (row := some rb) ⟨rfl, rfl, rfl, by simp [World.setCell], fun k _ hk => Below.heap_setCell _ _ _ _ (fun e => hk (by simp [e]))⟩ (Or.inr hne4)
  · refine (KM.trans (KM.ofBelow hba) (KM.ofGrown hgrow) (fun g hg => Or.inl hg)).trans (KM.ofSet (row := none) _) (fun g hg => by cases hg)
  · have : g = q := by simpa [Value.ownBlock] using hq
    subst this
    rcases hat with z | z
    · exact Or.inl z
    · exact Or.inr (by omega)
theorem push_rn {B rb n : Nat} {tv v : Value} {gb : Rc} {xs : List Value} {w w4 : World} (hR : RN rb tv gb w) (hO : w.ownsRow B 155 1 gb.stack n xs) (hgrow : (w.alloc (.cells #[v] 155)).grownBy w4 gb.stack.ownBlock) : RN rb tv gb w4 := by
  have hrb : rb < w.heap.size := (Array.getElem?_eq_some_iff.1 hR).1
  have hba : Below w.heap.size w (w.alloc (.cells #[v] 155)) := (Below.refl _ _).alloc (Nat.le_refl _) _
  exact (hgrow.block rb (Nat.lt_of_lt_of_le hrb hba.size) (fun e => own_ne155 hO hR e.symm)).trans ((hba.block rb hrb).trans hR)
set_option maxRecDepth 100000 in
set_option maxHeartbeats 1600000 in
theorem push_raw (B rb : Nat) (tv : Value) (gb : Rc) (n : Nat) (xs : List Value) (t : TypeId) (x : Value) (w : World) (hR : RN rb tv gb w) (hO : w.ownsRow B 155 1 gb.stack n xs) (hs : B ≤ w.heap.size) (hn : n ≤ 1000000) :
    Calls Tryz.prog 66 #[.pointer (some ⟨rb, 1, none⟩), .iface t x] w (ToldPush B rb tv gb n xs (.iface t x) w) := by
  have c1 := hR.at1
  have HH : Hid (RN rb tv gb w ∧ w.ownsRow B 155 1 gb.stack n xs) := ⟨hR, hO⟩
  obtain ⟨i0, hinf, hz0, hz1, hz2⟩ := info_parts infoVal
  obtain ⟨va, vc, hv, hvc⟩ := own_slice hO
  have hrb : rb < w.heap.size := (Array.getElem?_eq_some_iff.1 hR).1
  have c1a : (w.alloc (.cells #[.iface t x] 155)).cell? ⟨rb, 1, none⟩ = some gb.stack := cell_alloc _ c1
  have HOA := hidd (hO.alloc (.cells #[.iface t x] 155))
  generalize hST : gb.stack = st at *
  subst hv
  have HST := hidd hST
  clear hST hR hO
  go_enter Tryz.func66, Tryz.ntmps66
  go_wp2_with (at_builtin; refine wpList_append_lies _ rfl _ _ 58 rfl B 155 i0 _ 1 16 Tryz.underlying58 hinf hz0 hz1 hz2 rfl (by decide) (.slice va n vc) n xs rfl (by exact HOA.out) ⟨w.heap.size, 0, none⟩ 1 1 [.iface t x] rfl rfl (by exact one_newsV w _) (by intro u hu; simp at hu; subst hu; rfl) (by decide) (by unfold maxLen; omega) (by omega) (by simp; omega) (w.heap.size + 1) (by simp) ?_; intro g cap w4 hown hgrow hat hlt4; have HX := hidd (push_end HH.out.1 (by rw [HST.out]; exact HH.out.2) hown (by rw [HST.out]; exact hgrow) (by rw [HST.out]; exact hat)); have hR4 : RN rb tv gb w4 := push_rn HH.out.1 (by rw [HST.out]; exact HH.out.2) (by rw [HST.out]; exact hgrow); have z4 := looseO (q := 1) hR4; have d4 := hR4.at1; rw [HST.out] at d4; clear hown hgrow hat hlt4 hR4)
  go_end0
  exact HX.out
end
section
set_option linter.unusedVariables false
set_option linter.unusedSimpArgs false
open Go.RowKit
open Go.Proofs.YthikdpclifeonaaGreatDoor

theorem own_cell {w : World} {B n : Nat} {st : Value} {xs : List Value} (h : w.ownsRow B 155 1 st n xs) (hn : 0 < n) : ∃ g cap, st = .slice (some ⟨g, 0, none⟩) n cap ∧ n ≤ cap ∧ cap ≤ maxLen ∧ B ≤ g ∧ (∃ cur, w.heap[g]? = some (.cells cur 155 (0, 0))) ∧ ∀ (i : Nat) (v : Value), xs[i]? = some v → w.cell? ⟨g, i, none⟩ = some v := by
  rcases h.2 with ⟨rfl, rfl⟩ | ⟨g, cap, cur, rfl, hbg, hg, hnc, hcm, hcs, htake⟩
  · omega
  · refine ⟨g, cap, rfl, hnc, hcm, hbg, ⟨cur, hg⟩, fun i v hi => ?_⟩
    rw [cellO hg]
    have h1 : (cur.toList.take (n * 1))[i]? = some v := by rw [htake]; exact hi
    rw [List.getElem?_take] at h1
    split at h1
    · simpa using h1
    · cases h1
set_option maxRecDepth 100000 in
set_option maxHeartbeats 800000 in
theorem top_raw (g n cap : Nat) (t : TypeId) (x : Value) (w : World) (k0 : w.cell? ⟨g, n, none⟩ = some (.iface t x)) (hn : n ≤ 1000000) :
    Calls Tryz.prog 72 #[.slice (some ⟨g, 0, none⟩) (n + 1) cap] w fun e w' => e = .returned (.iface t x) ∧ w' = w := by
  have h1 : ((n + 1 : Nat) : Int) - 1 = (n : Int) := by omega
  have h2 : (0 : Int) ≤ (n : Int) := by omega
  have h3 : (n : Int) < ((n + 1 : Nat) : Int) := by omega
  have h4 : ((n + 1 : Nat) : Int) ≤ 1000001 := by omega
  have h5 : (0 : Int) ≤ ((n + 1 : Nat) : Int) := by omega
  have h6 : n < n + 1 := by omega
  generalize n + 1 = n1 at *
  go_enter Tryz.func72, Tryz.ntmps72
  go_wp2_with fail
  go_ret
  exact ⟨rfl, rfl⟩
set_option maxRecDepth 100000 in
set_option maxHeartbeats 800000 in
theorem take_raw (rb g r k n cap : Nat) (w : World) (c1 : w.cell? ⟨rb, 1, none⟩ = some (.slice (some ⟨g, 0, none⟩) n cap)) (z1 : w.frozen? ⟨rb, 1, none⟩ = false) (hn : n = r + k) (hc : n ≤ cap) (hm : n ≤ 1000000) :
    Calls Tryz.prog 107 #[.pointer (some ⟨rb, 1, none⟩), .int .i64 (k : Int)] w fun e w' => ∃ a, e = .returned (.slice a k (cap - r)) ∧ (k ≠ 0 → a = some ⟨g, r, none⟩) ∧ w' = w.setCell ⟨rb, 1, none⟩ (.slice (some ⟨g, 0, none⟩) r cap) := by
  have h1 : (n : Int) - (k : Int) = (r : Int) := by omega
  have h2 : (0 : Int) ≤ (r : Int) := by omega
  have h3 : (r : Int) ≤ (n : Int) := by omega
  have h4 : (n : Int) ≤ 1000000 := by omega
  have h5 : (0 : Int) ≤ (n : Int) := by omega
  have h6 : (0 : Int) ≤ (k : Int) := by omega
  have h7 : (k : Int) ≤ 1000000 := by omega
  have h8 : r ≤ n := by omega
  have h9 : n - r = k := by omega
  have h10 : r ≤ cap := by omega
  go_enter Tryz.func107, Tryz.ntmps107
  go_wp2_with fail
  · go_ret
    exact ⟨_, rfl, fun h => by omega, rfl⟩
  · go_ret
    exact ⟨_, rfl, fun _ => rfl, rfl⟩
set_option maxRecDepth 100000 in
set_option maxHeartbeats 800000 in
theorem pop_raw (rb g n cap : Nat) (t : TypeId) (x : Value) (w : World) (c1 : w.cell? ⟨rb, 1, none⟩ = some (.slice (some ⟨g, 0, none⟩) (n + 1) cap)) (z1 : w.frozen? ⟨rb, 1, none⟩ = false) (k0 : w.cell? ⟨g, n, none⟩ = some (.iface t x)) (hc : n + 1 ≤ cap) (hn : n + 1 ≤ 1000000) :
    Calls Tryz.prog 71 #[.pointer (some ⟨rb, 1, none⟩)] w fun e w' => e = .returned (.iface t x) ∧ w' = w.setCell ⟨rb, 1, none⟩ (.slice (some ⟨g, 0, none⟩) n cap) := by
  have HT := hidd (top_raw g n cap t x w k0 (by omega))
  have HK := hidd (take_raw rb g n 1 (n + 1) cap w c1 z1 rfl hc hn)
  clear z1 k0 hc hn
  generalize n + 1 = n1 at *
  go_enter Tryz.func71, Tryz.ntmps71
  go_wp2_with fail
  refine HT.out.mono ?_
  rintro e w1 ⟨rfl, rfl⟩
  go_wp2_with fail
  refine HK.out.mono ?_
  rintro e w1 ⟨a, rfl, _, rfl⟩
  go_wp2_with fail
  go_ret
  exact ⟨rfl, rfl⟩
end
section
set_option linter.unusedVariables false
set_option linter.unusedSimpArgs false
open Go.RowKit
open Go.Proofs.YthikdpclifeonaaGreatDoor

set_option maxRecDepth 100000 in
set_option maxHeartbeats 800000 in
theorem defined_yes (rb G a ng c : Nat) (t : TypeId) (x : Value) (w : World) (c7 : w.cell? ⟨rb, 7, none⟩ = some (.slice (some ⟨G, 0, none⟩) ng c)) (k0 : w.cell? ⟨G, a, none⟩ = some (.iface t x)) (ha : a < ng) (hn : ng ≤ 1000000) :
    Calls Tryz.prog 69 #[.pointer (some ⟨rb, 0, none⟩), .int .i64 (a : Int)] w fun e w' => e = .returned (.pointer (some ⟨G, a, none⟩)) ∧ w' = w := by
  have h1 : (0 : Int) ≤ (a : Int) := by omega
  have h2 : (a : Int) < (ng : Int) := by omega
  have h3 : (ng : Int) ≤ 1000000 := by omega
  go_enter Tryz.func69, Tryz.ntmps69
  go_wp2_with fail
  refine (Must_yes _ _).mono ?_
  rintro e w1 ⟨rfl, rfl⟩
  go_wp2_with fail
  go_ret
  exact ⟨rfl, rfl⟩
set_option maxRecDepth 100000 in
set_option maxHeartbeats 800000 in
theorem defined_no (rb G a ng c : Nat) (w : World) (c7 : w.cell? ⟨rb, 7, none⟩ = some (.slice (some ⟨G, 0, none⟩) ng c)) (k0 : w.cell? ⟨G, a, none⟩ = some .nilIface) (ha : a < ng) (hn : ng ≤ 1000000) :
    Calls Tryz.prog 69 #[.pointer (some ⟨rb, 0, none⟩), .int .i64 (a : Int)] w fun e w' => e = .panicked (endP 3) ∧ w' = w := by
  have h1 : (0 : Int) ≤ (a : Int) := by omega
  have h2 : (a : Int) < (ng : Int) := by omega
  have h3 : (ng : Int) ≤ 1000000 := by omega
  go_enter Tryz.func69, Tryz.ntmps69
  go_wp2_with fail
  refine (Must_no _ _).mono ?_
  rintro e w1 ⟨rfl, rfl⟩
  go_wp2_with fail
  exact ⟨rfl, rfl, rfl⟩
set_option maxRecDepth 100000 in
set_option maxHeartbeats 800000 in
theorem leave_none (rb c : Nat) (a : Option Addr) (w : World) (c5 : w.cell? ⟨rb, 5, none⟩ = some (.slice a 0 c)) :
    Calls Tryz.prog 73 #[.pointer (some ⟨rb, 0, none⟩)] w fun e w' => e = .returned (.bool false) ∧ w' = w := by
  go_enter Tryz.func73, Tryz.ntmps73
  go_wp2_with fail
  go_ret
  exact ⟨rfl, rfl⟩
set_option maxRecDepth 100000 in
set_option maxHeartbeats 1600000 in
theorem leave_some (rb C n c : Nat) (cv av x2 x3 x4 : Value) (i : Int) (ca : Option Addr) (cl cc : Nat) (ap : Option Addr) (w : World) (c5 : w.cell? ⟨rb, 5, none⟩ = some (.slice (some ⟨C, 0, none⟩) (n + 1) c)) (hCr : C ≠ rb) (hc : n + 1 ≤ c) (hn : n ≤ 1000)
    (z : ∀ q, w.frozen? ⟨rb, q, none⟩ = false) (k0 : w.cell? ⟨C, n * 3, none⟩ = some (.slice ca cl cc)) (k1 : w.cell? ⟨C, n * 3 + 1, none⟩ = some (.int .i64 i)) (k2 : w.cell? ⟨C, n * 3 + 2, none⟩ = some (.pointer ap))
    (e2 : w.cell? ⟨rb, 2, none⟩ = some x2) (e3 : w.cell? ⟨rb, 3, none⟩ = some x3) (e4 : w.cell? ⟨rb, 4, none⟩ = some x4) :
    Calls Tryz.prog 73 #[.pointer (some ⟨rb, 0, none⟩)] w fun e w' => e = .returned (.bool true) ∧ w' = (((w.setCell ⟨rb, 2, none⟩ (.slice ca cl cc)).setCell ⟨rb, 3, none⟩ (.int .i64 i)).setCell ⟨rb, 4, none⟩ (.pointer ap)).setCell ⟨rb, 5, none⟩ (.slice (some ⟨C, 0, none⟩) n c) := by
  have z2 := z 2
  have z3 := z 3
  have z4 := z 4
  have z5 := z 5
  have h1 : ((n + 1 : Nat) : Int) - 1 = (n : Int) := by omega
  have h2 : (0 : Int) ≤ (n : Int) := by omega
  have h3 : (n : Int) < ((n + 1 : Nat) : Int) := by omega
  have h4 : ((n + 1 : Nat) : Int) ≤ 1001 := by omega
  have h5 : (0 : Int) ≤ ((n + 1 : Nat) : Int) := by omega
  have h6 : ¬ (n : Int) < 0 := by omega
  have h6' : decide ((n : Int) < 0) = false := by simp
  have h7 : n ≤ n + 1 := by omega
  have h8 : n ≤ c := by omega
  clear z hn
  generalize n + 1 = n1 at *
  go_enter Tryz.func73, Tryz.ntmps73
  go_wp2_with fail
  go_ret
  exact ⟨rfl, rfl⟩
end
section
set_option linter.unusedVariables false
set_option linter.unusedSimpArgs false
open Go.RowKit
open Go.Proofs.YthikdpclifeonaaGreatDoor

/-- Blocks of the store are as they were. -/
def KX (m : Mm) (w w' : World) : Prop := ∀ (k : Nat) (cs : Array Value) (t : TypeId), w.heap[k]? = some (.cells cs t (0, 0)) → (t = 245 ∨ t = 172 ∨ t = 114 ∨ t = 9 ∨ t = 3 ∨ (t = 155 ∧ k ∈ m.rw)) → w'.heap[k]? = some (.cells cs t (0, 0))
theorem Fr.keptX {w w' : World} {m : Mm} {rows : List (List Val)} {fp : Nat} {e : List Nat} (h : Fr w m rows fp e) (hk : KX m w w') : Fr w' m rows fp e := by
  induction h with
  | root fp h => exact .root fp (hk fp _ _ h (by simp))
  | step fp ar far r cp e e' h1 h2 h3 h4 h5 h6 i1 i2 => exact .step fp ar far r cp e e' h1 h2 (hk fp _ _ h3 (by simp)) i1 i2 h6
theorem Rel.move {B rb : Nat} {gb gb' : Rc} {m : Mm} {σ : St} {w w' : World} (h : Rel B rb gb m σ w) (hb : Below B w w') (hp : gb'.pb = gb.pb ∧ gb'.po = gb.po) (hk : KX m w w') (hr : ∀ tv, RN rb tv gb w → RN rb tv gb' w') : Rel B rb gb' m σ w' := by
  refine ⟨?_, h.hB, h.hg, h.lp, h.lc, h.lr, h.np, h.nr, h.nc, h.bp, h.br, h.bc, ?_, ?_, ?_, h.gl⟩
  · obtain ⟨tv, h1, h2⟩ := h.run
    refine ⟨tv, hr tv h1, h2.1, ?_⟩
    rcases h2.2 with ⟨rfl, hn⟩ | ⟨g, cap, cur, hv, hbg, hg, r⟩
    · exact Or.inl ⟨rfl, hn⟩
    · exact Or.inr ⟨g, cap, cur, hv, hbg, hk g _ _ hg (by simp), r⟩
  · intro i k p h1 h2
    have := h.pr i k p h1 h2
    cases p with
    | made x y => exact ⟨this.1, this.2.1, hk k _ _ this.2.2 (by simp)⟩
    | unmade d ds =>
      obtain ⟨b', o', c', g', q1, q2, q3, q4, q5⟩ := this
      exact ⟨b', o', c', g', hk k _ _ q1 (by simp), q2, Dc.stay (fun z hz => hb.block z hz) (fun _ hz => hz) _ _ _ q3, q4, q5⟩
  · intro i k q h1 h2
    obtain ⟨fp, g1, g3⟩ := h.pc i k q h1 h2
    exact ⟨fp, by rw [hp.1, hp.2]; exact hk k _ _ g1 (by simp), g3.keptX hk⟩
  · intro r k vs h1 h2
    obtain ⟨g1, c0, g2⟩ := h.rw r k vs h1 h2
    exact ⟨g1, c0, hk k _ _ g2 (by simp [List.mem_of_getElem? h2])⟩
/-- A row of the machine's own: the stack, those that wait, the globals. -/
def MRow (m : Mm) (w : World) (row : Option Nat) : Prop := ∀ g, row = some g → ((∃ cs, w.heap[g]? = some (.cells cs 155 (0, 0))) ∧ g ∉ m.rw) ∨ ∃ cs, w.heap[g]? = some (.cells cs 62 (0, 0))
theorem KM.kx {rb : Nat} {row : Option Nat} {tv : Value} {gb : Rc} {m : Mm} {w w' : World} (h : KM rb row w w') (hr : RN rb tv gb w) (hm : MRow m w row) : KX m w w' := by
  intro k cs t hk ht
  refine (h.block k (Array.getElem?_eq_some_iff.1 hk).1 ?_ ?_).trans hk
  · rintro rfl
    rw [show w.heap[k]? = _ from hr] at hk
    simp only [Option.some.injEq, Obj.cells.injEq] at hk
    obtain ⟨_, rfl, _⟩ := hk
    simp at ht
  · intro e
    rcases hm k e.symm with ⟨⟨ds, hd⟩, hn⟩ | ⟨ds, hd⟩
    · rw [hd] at hk
      simp only [Option.some.injEq, Obj.cells.injEq] at hk
      obtain ⟨_, rfl, _⟩ := hk
      simp at ht
      exact hn ht
    · rw [hd] at hk
      simp only [Option.some.injEq, Obj.cells.injEq] at hk
      obtain ⟨_, rfl, _⟩ := hk
      simp at ht
theorem own_mrow {B n : Nat} {m : Mm} {w : World} {v : Value} {xs : List Value} (h : w.ownsRow B 155 1 v n xs) (hn : ∀ g, v.ownBlock = some g → g ∉ m.rw) : MRow m w v.ownBlock := fun g hg => by
  obtain ⟨_, _, cs, hc⟩ := own_type h g hg
  exact Or.inl ⟨⟨cs, hc⟩, hn g hg⟩
/-- A value is pushed: the store is as it was. -/
theorem push_rel {B rb n : Nat} {tv : Value} {gb : Rc} {m : Mm} {σ : St} {xs : List Value} {v : Value} {w w' : World} {e : Ending} (h : Rel B rb gb m σ w) (hs : B ≤ w.heap.size) (hR : RN rb tv gb w) (hO : w.ownsRow B 155 1 gb.stack n xs) (hn : ∀ g, gb.stack.ownBlock = some g → g ∉ m.rw) (hlt : ∀ g ∈ m.rw, g < w.heap.size) (ht : ToldPush B rb tv gb n xs v w e w') :
    ∃ gv, Rel B rb { gb with stack := gv } m σ w' ∧ w'.ownsRow B 155 1 gv (n + 1) (xs ++ [v]) ∧ KM rb gb.stack.ownBlock w w' ∧ (∀ g, gv.ownBlock = some g → g ∉ m.rw) ∧ RN rb tv { gb with stack := gv } w' := by
  obtain ⟨rfl, gv, h1, h2, h3, h4⟩ := ht
  refine ⟨gv, h.move (h3.below h.hB hs (fun g hg => (own_type hO g hg).1)) ⟨rfl, rfl⟩ (h3.kx hR (own_mrow hO hn)) (fun tv' hr' => ?_), h2, h3, fun g hg hm => ?_, h1⟩
  · have : tv' = tv := by
      have e1 : w.heap[rb]? = _ := hR
      have e2 : w.heap[rb]? = _ := hr'
      rw [e1] at e2
      simp only [Option.some.injEq, Obj.cells.injEq] at e2
      have := congrArg (fun a : Array Value => a[0]?) e2.1
      simpa using this.symm
    rw [this]
    exact h1
  · rcases h4 g hg with q | q
    · exact hn g q hm
    · have := hlt g hm
      omega
end
end Go.Proofs.YthikdpclifeonaaGreatDoor.V
