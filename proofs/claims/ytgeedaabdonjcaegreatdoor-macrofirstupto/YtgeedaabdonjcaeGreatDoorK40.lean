/- Chapter 5's laws: a rule set of one rule in memory. Chapter 5's laws: alive. -/
import Derived.Deep.CutRange
import Derived.Test.YtgeedaabdonjcaeGreatDoorK39
namespace Go.Proofs.YtgeedaabdonjcaeGreatDoor
section
set_option linter.unusedVariables false
set_option linter.unusedSimpArgs false
open Go.RowKit Go.Maps Go.WideMaps

/-- Data lie in a world. -/
def Dn (w : World) (f : Nat) (a : Option Addr) (ds : List Dat) : Prop := Dc (fun b => b < w.heap.size) w f a ds
theorem Dn.lift {w w' : World} {f : Nat} {a : Option Addr} {ds : List Dat} (h : Dn w f a ds) (hb : Below w.heap.size w w') : Dn w' f a ds :=
  Dc.stay (fun k hk => hb.block k hk) (fun k hk => Nat.lt_of_lt_of_le hk hb.size) f a ds h
theorem Dn.of {w0 w : World} {f : Nat} {a : Option Addr} {ds : List Dat} (h : Dc (New w0 w) w f a ds) : Dn w f a ds := Dc.stay (fun _ _ => rfl) (fun k hk => hk.2) f a ds h
theorem Dn.lc {w : World} {f : Nat} {a : Option Addr} {ds : List Dat} (h : Dn w f a ds) : LC w.heap.size w (f + 1) a ds := (Dc.lc (fun _ h => h) h).more
theorem LC.dn {B : Nat} {w : World} : ∀ (f : Nat) (a : Option Addr) (ds : List Dat), LC B w f a ds → B ≤ w.heap.size → Dn w f a ds
  | 0, a, ds, h, _ => h.1
  | f + 1, a, ds, h, hB => by
    refine ⟨h.len, ?_⟩
    by_cases h0 : ds = []
    · exact Or.inl h0
    · obtain ⟨g', b, o, hg, ha, hb, hall⟩ := h.at h0
      have : g' = f := by omega
      subst this
      refine Or.inr ⟨b, o, ha, Nat.lt_of_lt_of_le hb hB, fun i d hd => ?_⟩
      obtain ⟨a', cap, c0, c1, c2, c3, c4, c5, hn, hc, hk⟩ := hall i d hd
      exact ⟨a', cap, c0, c1, c2, c3, c4, c5, hn, hc, LC.dn g' a' _ hk hB⟩

theorem Dn.at {w : World} {f : Nat} {a : Option Addr} {ds : List Dat} (h : Dn w f a ds) (h0 : ds ≠ []) : ∃ f' b o, f = f' + 1 ∧ a = some ⟨b, o, none⟩ ∧ b < w.heap.size ∧ ∀ (i : Nat) (d : Dat), ds[i]? = some d → ∃ a' cap,
      w.cell? ⟨b, o + i * 6, none⟩ = some (.int .i64 d.kind) ∧ w.cell? ⟨b, o + i * 6 + 1, none⟩ = some (.int .i64 d.n) ∧ w.cell? ⟨b, o + i * 6 + 2, none⟩ = some (.string d.name) ∧
      w.cell? ⟨b, o + i * 6 + 3, none⟩ = some (.int .i64 d.stamp) ∧ w.cell? ⟨b, o + i * 6 + 4, none⟩ = some (.int .i64 d.lib) ∧ w.cell? ⟨b, o + i * 6 + 5, none⟩ = some (.slice a' d.kids.length cap) ∧
      d.name.size ≤ maxLen ∧ d.kids.length ≤ cap ∧ Dn w f' a' d.kids := by
  cases f with
  | zero => exact absurd h h0
  | succ f =>
    obtain ⟨_, h | ⟨b, o, h1, h2, h3⟩⟩ := h
    · exact absurd h h0
    · exact ⟨f, b, o, rfl, h1, h2, h3⟩

/-- Rules lie in a world. -/
def Rn (w : World) (g : Nat) (a : Option Addr) (l : List (Dat × Dat)) : Prop := Rls w.heap.size w g a l
theorem Rn.lift {w w' : World} {g : Nat} {a : Option Addr} {l : List (Dat × Dat)} (h : Rn w g a l) (hb : Below w.heap.size w w') : Rn w' g a l := by
  have h := Rls.below h hb
  refine ⟨h.1, ?_⟩
  rcases h.2 with h | ⟨b, o, ha, hb2, h⟩
  · exact Or.inl h
  · refine Or.inr ⟨b, o, ha, Nat.lt_of_lt_of_le hb2 hb.size, fun i p t hd => ?_⟩
    obtain ⟨pa, ta, pc, tc, h1, h2, h3, h4, h5, h6, h7⟩ := h i p t hd
    exact ⟨pa, ta, pc, tc, h1, h2, h3, h4, h5, h6.mono hb.size, h7.mono hb.size⟩

theorem LC.upto {B : Nat} {w : World} {g : Nat} {a : Option Addr} {ds : List Dat} (h : LC B w g a ds) : ∀ (k : Nat), LC B w (g + k) a ds
  | 0 => h
  | k + 1 => (h.upto k).more

/-- One rule, in a block of its own. -/
theorem Rn.one {w : World} {N fp ft : Nat} {p t : Dat} {pa ta : Option Addr} {pc tc : Nat} (hN : w.heap[N]? = some (.cells (two p t pa ta pc tc) 43 (0, 0))) (hp : Dn w fp pa p.kids) (ht : Dn w ft ta t.kids) (h1 : p.name.size ≤ maxLen) (h2 : t.name.size ≤ maxLen) (h3 : p.kids.length ≤ pc) (h4 : t.kids.length ≤ tc) : Rn w (fp + ft) (some ⟨N, 0, none⟩) [(p, t)] := by
  refine ⟨by simp, Or.inr ⟨N, 0, rfl, (Array.getElem?_eq_some_iff.1 hN).1, fun i p' t' hd => ?_⟩⟩
  cases i with
  | zero =>
    simp at hd
    obtain ⟨rfl, rfl⟩ := hd
    refine ⟨pa, ta, pc, tc, fun q hq => ?_, h1, h2, h3, h4, ?_, ?_⟩
    · simp [World.cell?, hN]
    · have := hp.lc.upto ft
      rwa [show fp + 1 + ft = fp + ft + 1 by omega] at this
    · have := ht.lc.upto fp
      rwa [show ft + 1 + fp = fp + ft + 1 by omega] at this
  | succ i => simp at hd

/-- Use, of data that lie in the world at hand. -/
theorem Use_here (g gd : Nat) (lits : List ByteArray) (rules : List (Dat × Dat)) (la ra : Option Addr) (lc rc : Nat) (form : Dat) (fa : Option Addr) (fc : Nat) (sp lbb : Int) (w : World)
    (hs : Strs w.heap.size w la lits) (hr : Rn w g ra rules) (hf : Dn w gd fa form.kids) (hfc : form.kids.length ≤ fc) (hsr : smR rules) (hsm : smD form) :
    Calls Tryz.prog 11 #[mv lits rules la ra lc rc, dv form fa fc, .int .i64 sp, .int .i64 lbb] w (ToldU (useM lits rules form sp lbb) w) :=
  Use_any w.heap.size g gd lits rules la ra lc rc form fa fc sp lbb w hs hr hf.lc hfc (Nat.le_refl _) hsr hsm
theorem Strs.none (B : Nat) (w : World) (a : Option Addr) : Strs B w a [] := ⟨by simp, by simp, Or.inl rfl⟩

/-- Data lie in a world, elsewhere than in block N. -/
def DnX (w : World) (N f : Nat) (a : Option Addr) (ds : List Dat) : Prop := Dc (fun b => b < w.heap.size ∧ b ≠ N) w f a ds
theorem DnX.lift {w w' : World} {N f : Nat} {a : Option Addr} {ds : List Dat} (h : DnX w N f a ds) (hb : Below w.heap.size w w') : DnX w' N f a ds :=
  Dc.stay (fun k hk => hb.block k hk.1) (fun k hk => ⟨Nat.lt_of_lt_of_le hk.1 hb.size, hk.2⟩) f a ds h
theorem DnX.of {w0 w : World} {N f : Nat} {a : Option Addr} {ds : List Dat} (h : Dc (New w0 w) w f a ds) (hN : N < w0.heap.size) : DnX w N f a ds := Dc.stay (fun _ _ => rfl) (fun k hk => ⟨hk.2, by have := hk.1; omega⟩) f a ds h
theorem Dn.x {w w' : World} {f : Nat} {a : Option Addr} {ds : List Dat} (h : Dn w f a ds) (hb : Below w.heap.size w w') : DnX w' w.heap.size f a ds :=
  Dc.stay (fun k hk => hb.block k hk) (fun k hk => ⟨Nat.lt_of_lt_of_le hk hb.size, by omega⟩) f a ds h
theorem DnX.dn {w : World} {N f : Nat} {a : Option Addr} {ds : List Dat} (h : DnX w N f a ds) : Dn w f a ds := Dc.stay (fun _ _ => rfl) (fun k hk => hk.1) f a ds h
theorem DnX.store {w : World} {N f : Nat} {a : Option Addr} {ds : List Dat} (h : DnX w N f a ds) (v0 v1 v2 v3 v4 v5 : Value) : Dn ((((((w.setCell ⟨N, 0, none⟩ v0).setCell ⟨N, 1, none⟩ v1).setCell ⟨N, 2, none⟩ v2).setCell ⟨N, 3, none⟩ v3).setCell ⟨N, 4, none⟩ v4).setCell ⟨N, 5, none⟩ v5) f a ds := by
  have hh := six_heap w N v0 v1 v2 v3 v4 v5
  exact Dc.stay (fun k hk => hh.1 k hk.2) (fun k hk => by rw [hh.2]; exact hk.1) f a ds h
theorem below_sixN {w0 w : World} {N : Nat} (h : Below w0.heap.size w0 w) (hN : w0.heap.size ≤ N) (v0 v1 v2 v3 v4 v5 : Value) : Below w0.heap.size w0 ((((((w.setCell ⟨N, 0, none⟩ v0).setCell ⟨N, 1, none⟩ v1).setCell ⟨N, 2, none⟩ v2).setCell ⟨N, 3, none⟩ v3).setCell ⟨N, 4, none⟩ v4).setCell ⟨N, 5, none⟩ v5) :=
  (((((h.setCell (p := ⟨N, 0, none⟩) hN v0).setCell (p := ⟨N, 1, none⟩) hN v1).setCell (p := ⟨N, 2, none⟩) hN v2).setCell (p := ⟨N, 3, none⟩) hN v3).setCell (p := ⟨N, 4, none⟩) hN v4).setCell (p := ⟨N, 5, none⟩) hN v5
end
section
set_option linter.unusedVariables false
set_option linter.unusedSimpArgs false
open Go.RowKit Go.Maps Go.WideMaps

def yS : ByteArray := ⟨#[121]⟩
def fS : ByteArray := ⟨#[102]⟩
def tS : ByteArray := ⟨#[116]⟩
def pA : Dat := listD [symD mS, symD xS, symD yS, symD dotsS]
def tA : Dat := listD [symD fS, symD xS, listD [symD yS, symD tS], symD dotsS]
def fA : Dat := listD [symD mS, numD 1, numD 2, numD 3]
def rulesA : List (Dat × Dat) := [(pA, tA)]
def dA : Dat := listD [⟨3, 0, fS, 7, 2, []⟩, numD 1, listD [numD 2, ⟨3, 0, tS, 7, 2, []⟩], listD [numD 3, ⟨3, 0, tS, 7, 2, []⟩]]
theorem useA : useM [] rulesA fA 7 2 = (dA, 0) := by kernel_rfl
theorem readPA : readL (⟨#[40, 109, 32, 120, 32, 121, 32, 46, 46, 46, 41]⟩ : ByteArray).data.toList = .inr [pA] := by kernel_rfl
theorem readTA : readL (⟨#[40, 102, 32, 120, 32, 40, 121, 32, 116, 41, 32, 46, 46, 46, 41]⟩ : ByteArray).data.toList = .inr [tA] := by kernel_rfl
theorem readFA : readL (⟨#[40, 109, 32, 49, 32, 50, 32, 51, 41]⟩ : ByteArray).data.toList = .inr [fA] := by kernel_rfl
theorem smA : smR rulesA := by
  intro p t h
  simp [rulesA] at h
  obtain ⟨rfl, rfl⟩ := h
  simp [tA, listD, symD, smD, smL]
  decide
theorem smfA : smD fA := by
  simp [fA, listD, symD, numD, smD, smL]
  decide


set_option maxRecDepth 100000 in
set_option maxHeartbeats 3200000 in
theorem alive_any (w : World) : Calls Tryz.prog 9 #[] w fun e w' => e = .returned (.bool true) ∧ Below w.heap.size w w' := by
  have O1 : Hid (∀ W, Calls Tryz.prog 18 #[.string ⟨#[40, 109, 32, 120, 32, 121, 32, 46, 46, 46, 41]⟩] W (ToldO pA W)) := fun W => one_any _ _ (by decide) readPA W
  have O2 : Hid (∀ W, Calls Tryz.prog 18 #[.string ⟨#[40, 102, 32, 120, 32, 40, 121, 32, 116, 41, 32, 46, 46, 46, 41]⟩] W (ToldO tA W)) := fun W => one_any _ _ (by decide) readTA W
  have ONE : Hid (∀ W, Calls Tryz.prog 18 #[.string ⟨#[40, 109, 32, 49, 32, 50, 32, 51, 41]⟩] W (ToldO fA W)) := fun W => one_any _ _ (by decide) readFA W
  go_enter Tryz.func9, Tryz.ntmps9
  go_wp2_with fail
  refine (O1.out _).mono ?_
  rintro e w1 ⟨hb1, pa, pc, pf, rfl, hpc, hpd⟩
  have P1 : Hid (Below w.heap.size w w1 ∧ pA.kids.length ≤ pc ∧ Dn w1 pf pa pA.kids) := ⟨hb1, hpc, Dn.of hpd⟩
  clear hb1 hpc hpd
  go_wp2_with fail
  refine (O2.out _).mono ?_
  rintro e w2 ⟨hb2, ta, tc, tf, rfl, htc, htd⟩
  have P2 : Hid (Below w.heap.size w w2 ∧ pA.kids.length ≤ pc ∧ Dn w2 pf pa pA.kids ∧ tA.kids.length ≤ tc ∧ Dn w2 tf ta tA.kids) := ⟨P1.out.1.trans (hb2.mono P1.out.1.size), P1.out.2.1, P1.out.2.2.lift hb2, htc, Dn.of htd⟩
  clear hb2 htc htd P1 O1 O2
  unfold dv
  go_upto_region 2 with fail
  have R0 : Hid (Below w.heap.size w ((w2.alloc (.cells (two pA tA pa ta pc tc) 43)).alloc (.cells #[.slice none 0 0, .slice (some ⟨w2.heap.size, 0, none⟩) 1 1] 25)) ∧ Rn ((w2.alloc (.cells (two pA tA pa ta pc tc) 43)).alloc (.cells #[.slice none 0 0, .slice (some ⟨w2.heap.size, 0, none⟩) 1 1] 25)) (pf + tf) (some ⟨w2.heap.size, 0, none⟩) rulesA ∧ ((w2.alloc (.cells (two pA tA pa ta pc tc) 43)).alloc (.cells #[.slice none 0 0, .slice (some ⟨w2.heap.size, 0, none⟩) 1 1] 25)).heap[w2.heap.size + 1]? = some (.cells #[.slice none 0 0, .slice (some ⟨w2.heap.size, 0, none⟩) 1 1] 25 (0, 0))) := by
    have h1 : Below w2.heap.size w2 ((w2.alloc (.cells (two pA tA pa ta pc tc) 43)).alloc (.cells #[.slice none 0 0, .slice (some ⟨w2.heap.size, 0, none⟩) 1 1] 25)) := ((Below.refl _ _).alloc (Nat.le_refl _) _).alloc (by simp) _
    refine ⟨P2.out.1.trans (h1.mono P2.out.1.size), Rn.one ?_ (P2.out.2.2.1.lift h1) (P2.out.2.2.2.2.lift h1) (Nat.zero_le _) (Nat.zero_le _) P2.out.2.1 P2.out.2.2.2.1, ?_⟩
    · rw [Below.heap_alloc _ _ _ (by simp)]
      exact World.alloc_heap_new w2 _
    · have := World.alloc_heap_new (w2.alloc (.cells (two pA tA pa ta pc tc) 43)) (.cells #[.slice none 0 0, .slice (some ⟨w2.heap.size, 0, none⟩) 1 1] 25)
      rwa [World.size_alloc] at this
  unfold two at R0
  generalize (w2.alloc (.cells #[.int .i64 pA.kind, .int .i64 pA.n, .string pA.name, .int .i64 pA.stamp, .int .i64 pA.lib, .slice pa pA.kids.length pc, .int .i64 tA.kind, .int .i64 tA.n, .string tA.name, .int .i64 tA.stamp, .int .i64 tA.lib, .slice ta tA.kids.length tc] 43)).alloc (.cells #[.slice none 0 0, .slice (some ⟨w2.heap.size, 0, none⟩) 1 1] 25) = W0 at R0
  generalize w2.heap.size + 1 = mb at R0
  generalize w2.heap.size = rb at R0
  generalize pf + tf = g at R0
  go_cut [2, 3] from 9 to 14 (fun s2 s3 wx => ∃ N a c f, s2 = .pointer (some ⟨N, 0, none⟩) ∧ s3 = .int .i64 0 ∧ Nod N dA (.slice a dA.kids.length c) wx ∧ dA.kids.length ≤ c ∧ Dn wx f a dA.kids ∧ Below W0.heap.size W0 wx)
  case first =>
    have hmb : mb < W0.heap.size := (Array.getElem?_eq_some_iff.1 R0.out.2.2).1
    have m0 : W0.cell? ⟨mb, 0, none⟩ = some (.slice none 0 0) := by simp [World.cell?, R0.out.2.2]
    have m1 : W0.cell? ⟨mb, 1, none⟩ = some (.slice (some ⟨rb, 0, none⟩) 1 1) := by simp [World.cell?, R0.out.2.2]
    have RL : Hid (Rn W0 g (some ⟨rb, 0, none⟩) rulesA) := R0.out.2.1
    refine wp_region_held_drew (S := fun u => Below W0.heap.size W0 u) (by kernel_rfl) (Below.drew (Below.refl _ _)) (fun hS => ?_)
    refine wpAnyH_take (i := 0) (oi := { dst := some 10, op := Op.load 25 (Operand.tmp 1), type := 25, pos := _, after := _, guard := none }) (v := .agg #[.slice none 0 0, .slice (some ⟨rb, 0, none⟩) 1 1]) rfl (by kernel_rfl) (by kernel_rfl) (by kernel_rfl) (fun _ _ _ h => h) (Or.inl ⟨by rfl, fun u hu => by (have z0 := (hu.cell (p := ⟨mb, 0, none⟩) hmb).trans m0; have z1 := (hu.cell (p := ⟨mb, 1, none⟩) hmb).trans m1; go_simp)⟩) hS ?_
    simp only [Act.put, List.setIfInBounds_toArray, List.set_cons_zero, List.set_cons_succ]
    refine wpAnyH_ready (rs := [1, 6]) (by kernel_rfl) (by simp) (AllReadyH.cons (o := { dst := some 11, op := Op.call { callee := Callee.value (Operand.func 18), args := #[Operand.const (Value.string { data := #[40, 109, 32, 49, 32, 50, 32, 51, 41] })], argTypes := #[9] }, type := 28, pos := _, after := _, guard := none }) rfl (fun K hK => ?_) (AllReadyH.cons (o := { dst := some 2, op := Op.alloc 28, type := 0, pos := _, after := _, guard := none }) rfl (fun K hK => ?_) AllReadyH.nil))
    · go_simp
      refine (ONE.out W0.drew).mono ?_
      rintro e W1 ⟨hb1, xa1, xc1, xf1, rfl, hc1, hd1⟩
      have FO_1 : Hid (fA.kids.length ≤ xc1 ∧ Dn W1 xf1 xa1 fA.kids) := ⟨hc1, Dn.of hd1⟩
      have hS1 := hS.trans (hb1.mono hS.size)
      clear hb1 hc1 hd1
      unfold dv
      show K _ W1
      refine hK.out _ _ hS1 (fun hS => ?_)
      clear hK K
      refine wpAnyH_ready (rs := [2, 6]) (by kernel_rfl) (by simp) (AllReadyH.cons (o := { dst := some 12, op := Op.call { callee := Callee.value (Operand.func 11), args := #[Operand.tmp 10, Operand.tmp 11, Operand.const (Value.int IntKind.i64 7), Operand.const (Value.int IntKind.i64 2)], argTypes := #[25, 28, 3, 3] }, type := 32, pos := _, after := _, guard := none }) rfl (fun K hK => ?_) (AllReadyH.cons (o := { dst := some 2, op := Op.alloc 28, type := 0, pos := _, after := _, guard := none }) rfl (fun K hK => ?_) AllReadyH.nil))
      · go_simp
        have US2 := Use_here g _ [] rulesA none (some ⟨rb, 0, none⟩) 0 1 fA xa1 xc1 7 2 W1 (Strs.none _ _ _) (RL.out.lift hS) FO_1.out.2 FO_1.out.1 smA smfA
        rw [useA] at US2
        refine Calls.mono US2 ?_
        clear US2
        rintro e W2 ⟨hb2, ra2, rc2, rf2, rfl, hc2, hd2⟩
        have FO_2 : Hid (fA.kids.length ≤ xc1 ∧ Dn W2 xf1 xa1 fA.kids) := ⟨FO_1.out.1, FO_1.out.2.lift hb2⟩
        have RE_2 : Hid (dA.kids.length ≤ rc2 ∧ Dn W2 rf2 ra2 dA.kids) := ⟨hc2, Dn.of hd2⟩
        have hS2 := hS.trans (hb2.mono hS.size)
        clear hb2 hc2 hd2
        unfold dv
        show K _ W2
        refine hK.out _ _ hS2 (fun hS => ?_)
        clear hK K
        refine wpAnyH_take (i := 3) (oi := { dst := some 9, op := Op.move (Operand.tmp 12), type := 32, pos := _, after := _, guard := none }) (v := .tuple #[.agg #[.int .i64 dA.kind, .int .i64 dA.n, .string dA.name, .int .i64 dA.stamp, .int .i64 dA.lib, .slice ra2 dA.kids.length rc2], .int .i64 0]) rfl (by kernel_rfl) (by kernel_rfl) (by kernel_rfl) (fun _ _ _ h => h) (Or.inl ⟨by rfl, fun u hu => by go_simp⟩) hS ?_
        simp only [Act.put, List.setIfInBounds_toArray, List.set_cons_zero, List.set_cons_succ]
        refine wpAnyH_take (i := 4) (oi := { dst := some 13, op := Op.extract (Operand.tmp 9) 0, type := 28, pos := _, after := _, guard := none }) (v := .agg #[.int .i64 dA.kind, .int .i64 dA.n, .string dA.name, .int .i64 dA.stamp, .int .i64 dA.lib, .slice ra2 dA.kids.length rc2]) rfl (by kernel_rfl) (by kernel_rfl) (by kernel_rfl) (fun _ _ _ h => h) (Or.inl ⟨by rfl, fun u hu => by go_simp⟩) hS ?_
        simp only [Act.put, List.setIfInBounds_toArray, List.set_cons_zero, List.set_cons_succ]
        refine wpAnyH_take (i := 5) (oi := { dst := some 14, op := Op.extract (Operand.tmp 9) 1, type := 31, pos := _, after := _, guard := none }) (v := .int .i64 0) rfl (by kernel_rfl) (by kernel_rfl) (by kernel_rfl) (fun _ _ _ h => h) (Or.inl ⟨by rfl, fun u hu => by go_simp⟩) hS ?_
        simp only [Act.put, List.setIfInBounds_toArray, List.set_cons_zero, List.set_cons_succ]
        refine wpAnyH_ready (rs := [6]) (by kernel_rfl) (by simp) (AllReadyH.cons (o := { dst := some 2, op := Op.alloc 28, type := 0, pos := _, after := _, guard := none }) rfl (fun K hK => ?_) AllReadyH.nil)
        go_simp
        have hb3 : Below W2.heap.size W2 (W2.alloc (.cells #[.int .i64 0, .int .i64 0, .string ⟨#[]⟩, .int .i64 0, .int .i64 0, .slice none 0 0] 28)) := (Below.refl _ _).alloc (Nat.le_refl _) _
        have hN3 : Nod W2.heap.size ⟨0, 0, ⟨#[]⟩, 0, 0, []⟩ (.slice none 0 0) (W2.alloc (.cells #[.int .i64 0, .int .i64 0, .string ⟨#[]⟩, .int .i64 0, .int .i64 0, .slice none 0 0] 28)) := Nod.made W2 ⟨0, 0, ⟨#[]⟩, 0, 0, []⟩ (.slice none 0 0)
        have hnb3 : W0.heap.size ≤ W2.heap.size := hS.size
        have hS3 := hS.trans (hb3.mono hS.size)
        change K _ (W2.alloc (.cells #[.int .i64 0, .int .i64 0, .string ⟨#[]⟩, .int .i64 0, .int .i64 0, .slice none 0 0] 28))
        generalize W2.alloc (.cells #[.int .i64 0, .int .i64 0, .string ⟨#[]⟩, .int .i64 0, .int .i64 0, .slice none 0 0] 28) = W3 at hb3 hN3 hS3 ⊢
        have RE_3 : Hid (dA.kids.length ≤ rc2 ∧ DnX W3 W2.heap.size rf2 ra2 dA.kids) := ⟨RE_2.out.1, RE_2.out.2.x hb3⟩
        have FO_3 : Hid (fA.kids.length ≤ xc1 ∧ Dn W3 xf1 xa1 fA.kids) := ⟨FO_2.out.1, FO_2.out.2.lift hb3⟩
        have NO_3 : Hid (Nod W2.heap.size ⟨0, 0, ⟨#[]⟩, 0, 0, []⟩ (.slice none 0 0) W3 ∧ W0.heap.size ≤ W2.heap.size) := ⟨hN3, hnb3⟩
        clear hb3 hN3 hnb3
        refine hK.out _ _ hS3 (fun hS => ?_)
        clear hK K
        refine wpAnyH_ready (rs := [7]) (by kernel_rfl) (by simp) (AllReadyH.cons (o := { dst := none, op := Op.store 28 (Operand.tmp 2) (Operand.tmp 13), type := 0, pos := _, after := _, guard := none }) rfl (fun K hK => ?_) AllReadyH.nil)
        obtain ⟨q, q0, q1, q2, q3, q4, q5, qz⟩ := NO_3.out.1
        simp only at q0 q1 q2 q3 q4 q5
        go_simp
        refine hK.out _ _ (below_sixN hS NO_3.out.2 _ _ _ _ _ _) (fun hS => ?_)
        clear hK K
        refine wpAnyH_take (i := 8) (oi := { dst := some 3, op := Op.assign (Operand.tmp 14), type := 31, pos := _, after := _, guard := none }) (v := .int .i64 0) rfl (by kernel_rfl) (by kernel_rfl) (by kernel_rfl) (fun _ _ _ h => h) (Or.inl ⟨by rfl, fun u hu => by go_simp⟩) hS ?_
        simp only [Act.put, List.setIfInBounds_toArray, List.set_cons_zero, List.set_cons_succ]
        refine wpAnyH_done (by kernel_rfl) ?_ _
        clear q q0 q1 q2 q3 q4 q5 qz
        go_wp2_with fail
        go_meet
        case rel =>
          exact ⟨_, _, _, _, rfl, rfl, NO_3.out.1.store dA (.slice ra2 dA.kids.length rc2), RE_3.out.1, RE_3.out.2.store _ _ _ _ _ _, hS⟩
      · go_simp
        have hb2 : Below W1.heap.size W1 (W1.alloc (.cells #[.int .i64 0, .int .i64 0, .string ⟨#[]⟩, .int .i64 0, .int .i64 0, .slice none 0 0] 28)) := (Below.refl _ _).alloc (Nat.le_refl _) _
        have hN2 : Nod W1.heap.size ⟨0, 0, ⟨#[]⟩, 0, 0, []⟩ (.slice none 0 0) (W1.alloc (.cells #[.int .i64 0, .int .i64 0, .string ⟨#[]⟩, .int .i64 0, .int .i64 0, .slice none 0 0] 28)) := Nod.made W1 ⟨0, 0, ⟨#[]⟩, 0, 0, []⟩ (.slice none 0 0)
        have hnb2 : W0.heap.size ≤ W1.heap.size := hS.size
        have hS2 := hS.trans (hb2.mono hS.size)
        change K _ (W1.alloc (.cells #[.int .i64 0, .int .i64 0, .string ⟨#[]⟩, .int .i64 0, .int .i64 0, .slice none 0 0] 28))
        generalize W1.alloc (.cells #[.int .i64 0, .int .i64 0, .string ⟨#[]⟩, .int .i64 0, .int .i64 0, .slice none 0 0] 28) = W2 at hb2 hN2 hS2 ⊢
        have FO_2 : Hid (fA.kids.length ≤ xc1 ∧ Dn W2 xf1 xa1 fA.kids) := ⟨FO_1.out.1, FO_1.out.2.lift hb2⟩
        have NO_2 : Hid (Nod W1.heap.size ⟨0, 0, ⟨#[]⟩, 0, 0, []⟩ (.slice none 0 0) W2 ∧ W0.heap.size ≤ W1.heap.size) := ⟨hN2, hnb2⟩
        clear hb2 hN2 hnb2
        refine hK.out _ _ hS2 (fun hS => ?_)
        clear hK K
        refine wpAnyH_ready (rs := [2]) (by kernel_rfl) (by simp) (AllReadyH.cons (o := { dst := some 12, op := Op.call { callee := Callee.value (Operand.func 11), args := #[Operand.tmp 10, Operand.tmp 11, Operand.const (Value.int IntKind.i64 7), Operand.const (Value.int IntKind.i64 2)], argTypes := #[25, 28, 3, 3] }, type := 32, pos := _, after := _, guard := none }) rfl (fun K hK => ?_) AllReadyH.nil)
        go_simp
        have US3 := Use_here g _ [] rulesA none (some ⟨rb, 0, none⟩) 0 1 fA xa1 xc1 7 2 W2 (Strs.none _ _ _) (RL.out.lift hS) FO_2.out.2 FO_2.out.1 smA smfA
        rw [useA] at US3
        refine Calls.mono US3 ?_
        clear US3
        rintro e W3 ⟨hb3, ra3, rc3, rf3, rfl, hc3, hd3⟩
        have hx3 := NO_2.out.1.lt
        have FO_3 : Hid (fA.kids.length ≤ xc1 ∧ Dn W3 xf1 xa1 fA.kids) := ⟨FO_2.out.1, FO_2.out.2.lift hb3⟩
        have NO_3 : Hid (Nod W1.heap.size ⟨0, 0, ⟨#[]⟩, 0, 0, []⟩ (.slice none 0 0) W3 ∧ W0.heap.size ≤ W1.heap.size) := ⟨NO_2.out.1.after hb3, NO_2.out.2⟩
        have RE_3 : Hid (dA.kids.length ≤ rc3 ∧ DnX W3 (W1.heap.size) rf3 ra3 dA.kids) := ⟨hc3, DnX.of hd3 hx3⟩
        have hS3 := hS.trans (hb3.mono hS.size)
        clear hb3 hc3 hd3
        clear hx3
        unfold dv
        show K _ W3
        refine hK.out _ _ hS3 (fun hS => ?_)
        clear hK K
        refine wpAnyH_take (i := 3) (oi := { dst := some 9, op := Op.move (Operand.tmp 12), type := 32, pos := _, after := _, guard := none }) (v := .tuple #[.agg #[.int .i64 dA.kind, .int .i64 dA.n, .string dA.name, .int .i64 dA.stamp, .int .i64 dA.lib, .slice ra3 dA.kids.length rc3], .int .i64 0]) rfl (by kernel_rfl) (by kernel_rfl) (by kernel_rfl) (fun _ _ _ h => h) (Or.inl ⟨by rfl, fun u hu => by go_simp⟩) hS ?_
        simp only [Act.put, List.setIfInBounds_toArray, List.set_cons_zero, List.set_cons_succ]
        refine wpAnyH_take (i := 4) (oi := { dst := some 13, op := Op.extract (Operand.tmp 9) 0, type := 28, pos := _, after := _, guard := none }) (v := .agg #[.int .i64 dA.kind, .int .i64 dA.n, .string dA.name, .int .i64 dA.stamp, .int .i64 dA.lib, .slice ra3 dA.kids.length rc3]) rfl (by kernel_rfl) (by kernel_rfl) (by kernel_rfl) (fun _ _ _ h => h) (Or.inl ⟨by rfl, fun u hu => by go_simp⟩) hS ?_
        simp only [Act.put, List.setIfInBounds_toArray, List.set_cons_zero, List.set_cons_succ]
        refine wpAnyH_take (i := 5) (oi := { dst := some 14, op := Op.extract (Operand.tmp 9) 1, type := 31, pos := _, after := _, guard := none }) (v := .int .i64 0) rfl (by kernel_rfl) (by kernel_rfl) (by kernel_rfl) (fun _ _ _ h => h) (Or.inl ⟨by rfl, fun u hu => by go_simp⟩) hS ?_
        simp only [Act.put, List.setIfInBounds_toArray, List.set_cons_zero, List.set_cons_succ]
        refine wpAnyH_ready (rs := [7]) (by kernel_rfl) (by simp) (AllReadyH.cons (o := { dst := none, op := Op.store 28 (Operand.tmp 2) (Operand.tmp 13), type := 0, pos := _, after := _, guard := none }) rfl (fun K hK => ?_) AllReadyH.nil)
        obtain ⟨q, q0, q1, q2, q3, q4, q5, qz⟩ := NO_3.out.1
        simp only at q0 q1 q2 q3 q4 q5
        go_simp
        refine hK.out _ _ (below_sixN hS NO_3.out.2 _ _ _ _ _ _) (fun hS => ?_)
        clear hK K
        refine wpAnyH_take (i := 8) (oi := { dst := some 3, op := Op.assign (Operand.tmp 14), type := 31, pos := _, after := _, guard := none }) (v := .int .i64 0) rfl (by kernel_rfl) (by kernel_rfl) (by kernel_rfl) (fun _ _ _ h => h) (Or.inl ⟨by rfl, fun u hu => by go_simp⟩) hS ?_
        simp only [Act.put, List.setIfInBounds_toArray, List.set_cons_zero, List.set_cons_succ]
        refine wpAnyH_done (by kernel_rfl) ?_ _
        clear q q0 q1 q2 q3 q4 q5 qz
        go_wp2_with fail
        go_meet
        case rel =>
          exact ⟨_, _, _, _, rfl, rfl, NO_3.out.1.store dA (.slice ra3 dA.kids.length rc3), RE_3.out.1, RE_3.out.2.store _ _ _ _ _ _, hS⟩
    · go_simp
      have hb1 : Below W0.drew.heap.size W0.drew (W0.drew.alloc (.cells #[.int .i64 0, .int .i64 0, .string ⟨#[]⟩, .int .i64 0, .int .i64 0, .slice none 0 0] 28)) := (Below.refl _ _).alloc (Nat.le_refl _) _
      have hN1 : Nod W0.heap.size ⟨0, 0, ⟨#[]⟩, 0, 0, []⟩ (.slice none 0 0) (W0.drew.alloc (.cells #[.int .i64 0, .int .i64 0, .string ⟨#[]⟩, .int .i64 0, .int .i64 0, .slice none 0 0] 28)) := Nod.made W0.drew ⟨0, 0, ⟨#[]⟩, 0, 0, []⟩ (.slice none 0 0)
      have hnb1 : W0.heap.size ≤ W0.heap.size := hS.size
      have hS1 := hS.trans (hb1.mono hS.size)
      change K _ (W0.drew.alloc (.cells #[.int .i64 0, .int .i64 0, .string ⟨#[]⟩, .int .i64 0, .int .i64 0, .slice none 0 0] 28))
      generalize W0.drew.alloc (.cells #[.int .i64 0, .int .i64 0, .string ⟨#[]⟩, .int .i64 0, .int .i64 0, .slice none 0 0] 28) = W1 at hb1 hN1 hS1 ⊢
      have NO_1 : Hid (Nod W0.heap.size ⟨0, 0, ⟨#[]⟩, 0, 0, []⟩ (.slice none 0 0) W1 ∧ W0.heap.size ≤ W0.heap.size) := ⟨hN1, hnb1⟩
      clear hb1 hN1 hnb1
      refine hK.out _ _ hS1 (fun hS => ?_)
      clear hK K
      refine wpAnyH_ready (rs := [1]) (by kernel_rfl) (by simp) (AllReadyH.cons (o := { dst := some 11, op := Op.call { callee := Callee.value (Operand.func 18), args := #[Operand.const (Value.string { data := #[40, 109, 32, 49, 32, 50, 32, 51, 41] })], argTypes := #[9] }, type := 28, pos := _, after := _, guard := none }) rfl (fun K hK => ?_) AllReadyH.nil)
      go_simp
      refine (ONE.out W1).mono ?_
      rintro e W2 ⟨hb2, xa2, xc2, xf2, rfl, hc2, hd2⟩
      have NO_2 : Hid (Nod W0.heap.size ⟨0, 0, ⟨#[]⟩, 0, 0, []⟩ (.slice none 0 0) W2 ∧ W0.heap.size ≤ W0.heap.size) := ⟨NO_1.out.1.after hb2, NO_1.out.2⟩
      have FO_2 : Hid (fA.kids.length ≤ xc2 ∧ Dn W2 xf2 xa2 fA.kids) := ⟨hc2, Dn.of hd2⟩
      have hS2 := hS.trans (hb2.mono hS.size)
      clear hb2 hc2 hd2
      unfold dv
      show K _ W2
      refine hK.out _ _ hS2 (fun hS => ?_)
      clear hK K
      refine wpAnyH_ready (rs := [2]) (by kernel_rfl) (by simp) (AllReadyH.cons (o := { dst := some 12, op := Op.call { callee := Callee.value (Operand.func 11), args := #[Operand.tmp 10, Operand.tmp 11, Operand.const (Value.int IntKind.i64 7), Operand.const (Value.int IntKind.i64 2)], argTypes := #[25, 28, 3, 3] }, type := 32, pos := _, after := _, guard := none }) rfl (fun K hK => ?_) AllReadyH.nil)
      go_simp
      have US3 := Use_here g _ [] rulesA none (some ⟨rb, 0, none⟩) 0 1 fA xa2 xc2 7 2 W2 (Strs.none _ _ _) (RL.out.lift hS) FO_2.out.2 FO_2.out.1 smA smfA
      rw [useA] at US3
      refine Calls.mono US3 ?_
      clear US3
      rintro e W3 ⟨hb3, ra3, rc3, rf3, rfl, hc3, hd3⟩
      have hx3 := NO_2.out.1.lt
      have NO_3 : Hid (Nod W0.heap.size ⟨0, 0, ⟨#[]⟩, 0, 0, []⟩ (.slice none 0 0) W3 ∧ W0.heap.size ≤ W0.heap.size) := ⟨NO_2.out.1.after hb3, NO_2.out.2⟩
      have FO_3 : Hid (fA.kids.length ≤ xc2 ∧ Dn W3 xf2 xa2 fA.kids) := ⟨FO_2.out.1, FO_2.out.2.lift hb3⟩
      have RE_3 : Hid (dA.kids.length ≤ rc3 ∧ DnX W3 (W0.heap.size) rf3 ra3 dA.kids) := ⟨hc3, DnX.of hd3 hx3⟩
      have hS3 := hS.trans (hb3.mono hS.size)
      clear hb3 hc3 hd3
      clear hx3
      unfold dv
      show K _ W3
      refine hK.out _ _ hS3 (fun hS => ?_)
      clear hK K
      refine wpAnyH_take (i := 3) (oi := { dst := some 9, op := Op.move (Operand.tmp 12), type := 32, pos := _, after := _, guard := none }) (v := .tuple #[.agg #[.int .i64 dA.kind, .int .i64 dA.n, .string dA.name, .int .i64 dA.stamp, .int .i64 dA.lib, .slice ra3 dA.kids.length rc3], .int .i64 0]) rfl (by kernel_rfl) (by kernel_rfl) (by kernel_rfl) (fun _ _ _ h => h) (Or.inl ⟨by rfl, fun u hu => by go_simp⟩) hS ?_
      simp only [Act.put, List.setIfInBounds_toArray, List.set_cons_zero, List.set_cons_succ]
      refine wpAnyH_take (i := 4) (oi := { dst := some 13, op := Op.extract (Operand.tmp 9) 0, type := 28, pos := _, after := _, guard := none }) (v := .agg #[.int .i64 dA.kind, .int .i64 dA.n, .string dA.name, .int .i64 dA.stamp, .int .i64 dA.lib, .slice ra3 dA.kids.length rc3]) rfl (by kernel_rfl) (by kernel_rfl) (by kernel_rfl) (fun _ _ _ h => h) (Or.inl ⟨by rfl, fun u hu => by go_simp⟩) hS ?_
      simp only [Act.put, List.setIfInBounds_toArray, List.set_cons_zero, List.set_cons_succ]
      refine wpAnyH_take (i := 5) (oi := { dst := some 14, op := Op.extract (Operand.tmp 9) 1, type := 31, pos := _, after := _, guard := none }) (v := .int .i64 0) rfl (by kernel_rfl) (by kernel_rfl) (by kernel_rfl) (fun _ _ _ h => h) (Or.inl ⟨by rfl, fun u hu => by go_simp⟩) hS ?_
      simp only [Act.put, List.setIfInBounds_toArray, List.set_cons_zero, List.set_cons_succ]
      refine wpAnyH_ready (rs := [7]) (by kernel_rfl) (by simp) (AllReadyH.cons (o := { dst := none, op := Op.store 28 (Operand.tmp 2) (Operand.tmp 13), type := 0, pos := _, after := _, guard := none }) rfl (fun K hK => ?_) AllReadyH.nil)
      obtain ⟨q, q0, q1, q2, q3, q4, q5, qz⟩ := NO_3.out.1
      simp only at q0 q1 q2 q3 q4 q5
      go_simp
      refine hK.out _ _ (below_sixN hS NO_3.out.2 _ _ _ _ _ _) (fun hS => ?_)
      clear hK K
      refine wpAnyH_take (i := 8) (oi := { dst := some 3, op := Op.assign (Operand.tmp 14), type := 31, pos := _, after := _, guard := none }) (v := .int .i64 0) rfl (by kernel_rfl) (by kernel_rfl) (by kernel_rfl) (fun _ _ _ h => h) (Or.inl ⟨by rfl, fun u hu => by go_simp⟩) hS ?_
      simp only [Act.put, List.setIfInBounds_toArray, List.set_cons_zero, List.set_cons_succ]
      refine wpAnyH_done (by kernel_rfl) ?_ _
      clear q q0 q1 q2 q3 q4 q5 qz
      go_wp2_with fail
      go_meet
      case rel =>
        exact ⟨_, _, _, _, rfl, rfl, NO_3.out.1.store dA (.slice ra3 dA.kids.length rc3), RE_3.out.1, RE_3.out.2.store _ _ _ _ _ _, hS⟩
  case rest =>
    obtain ⟨N, a9, c9, f9, rfl, rfl, n9, hc9, hd9, hb9⟩ := hcut
    have HB : Hid (Below w.heap.size w wc) := R0.out.1.trans (hb9.mono R0.out.1.size)
    obtain ⟨f1, b1, o1, hf1, ha1, hb1, hall⟩ := hd9.at (by decide)
    subst ha1
    obtain ⟨x0, y0, _, _, _, k0, _, _, _, _, _⟩ := hall 0 ⟨3, 0, fS, 7, 2, []⟩ rfl
    obtain ⟨x3, y3, _, _, _, _, _, k3, _, _, hd3⟩ := hall 3 (listD [numD 3, ⟨3, 0, tS, 7, 2, []⟩]) rfl
    obtain ⟨f2, b2, o2, hf2, ha2, hb2, hall2⟩ := hd3.at (by decide)
    subst ha2
    obtain ⟨z0, v0, _, j0, _, _, _, _, _, _, _⟩ := hall2 0 (numD 3) rfl
    obtain ⟨z1, v1, _, _, _, _, j1, _, _, _, _⟩ := hall2 1 ⟨3, 0, tS, 7, 2, []⟩ rfl
    have q5 : wc.cell? ⟨N, 5, none⟩ = some (.slice (some ⟨b1, o1, none⟩) 4 c9) := n9.q5
    have k0' : wc.cell? ⟨b1, o1 + 3, none⟩ = some (.int .i64 7) := k0
    have k3' : wc.cell? ⟨b1, o1 + 18 + 5, none⟩ = some (.slice (some ⟨b2, o2, none⟩) 2 y3) := k3
    have j0' : wc.cell? ⟨b2, o2 + 1, none⟩ = some (.int .i64 3) := j0
    have j1' : wc.cell? ⟨b2, o2 + 6 + 4, none⟩ = some (.int .i64 2) := j1
    clear hall hall2 hd3 hd9 n9 k0 k3 j0 j1 hf1 hf2 hc9 hb9 R0 P2
    go_wp2_with fail
    go_ret
    exact ⟨rfl, HB.out⟩
end
end Go.Proofs.YtgeedaabdonjcaeGreatDoor
