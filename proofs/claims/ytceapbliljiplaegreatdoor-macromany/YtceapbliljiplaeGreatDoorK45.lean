/- Chapter 5's laws: a rule set of one rule in memory. -/
import Derived.Deep.CutRange
import Derived.Test.YtceapbliljiplaeGreatDoorK44
namespace Go.Proofs.YtceapbliljiplaeGreatDoor
set_option linter.unusedVariables false
set_option linter.unusedSimpArgs false
open Go.RowKit Go.Maps Go.WideMaps

/-- Data lie in a world. -/
def Dn (w : World) (f : Nat) (a : Option Addr) (ds : List Dat) : Prop := Dc (fun b => b < w.heap.size) w f a ds
theorem Dn.lift {w w' : World} {f : Nat} {a : Option Addr} {ds : List Dat} (h : Dn w f a ds) (hb : Below w.heap.size w w') : Dn w' f a ds :=
  Dc.stay (fun k hk => hb.block k hk) (fun k hk => Nat.lt_of_lt_of_le hk hb.size) f a ds h
theorem Dn.of {w0 w : World} {f : Nat} {a : Option Addr} {ds : List Dat} (h : Dc (New w0 w) w f a ds) : Dn w f a ds := Dc.stay (fun _ _ => rfl) (fun k hk => hk.2) f a ds h
theorem Dn.lc {w : World} {f : Nat} {a : Option Addr} {ds : List Dat} (h : Dn w f a ds) : LC w.heap.size w (f + 1) a ds := (Dc.lc (fun _ h => h) h).more
theorem LC.dn {B : Nat} {w : World} : ∀ (f : Nat) (a : Option Addr) (ds : List Dat), LC B w f a ds → B ≤ w.heap.size → Dn w f a ds
  | 0, a, ds, h, _ => h.1
  | f + 1, a, ds, h, hB => by
    refine ⟨h.len, ?_⟩
    by_cases h0 : ds = []
    · exact Or.inl h0
    · obtain ⟨g', b, o, hg, ha, hb, hall⟩ := h.at h0
      have : g' = f := by omega
      subst this
      refine Or.inr ⟨b, o, ha, Nat.lt_of_lt_of_le hb hB, fun i d hd => ?_⟩
      obtain ⟨a', cap, c0, c1, c2, c3, c4, c5, hn, hc, hk⟩ := hall i d hd
      exact ⟨a', cap, c0, c1, c2, c3, c4, c5, hn, hc, LC.dn g' a' _ hk hB⟩

theorem Dn.at {w : World} {f : Nat} {a : Option Addr} {ds : List Dat} (h : Dn w f a ds) (h0 : ds ≠ []) : ∃ f' b o, f = f' + 1 ∧ a = some ⟨b, o, none⟩ ∧ b < w.heap.size ∧ ∀ (i : Nat) (d : Dat), ds[i]? = some d → ∃ a' cap,
      w.cell? ⟨b, o + i * 6, none⟩ = some (.int .i64 d.kind) ∧ w.cell? ⟨b, o + i * 6 + 1, none⟩ = some (.int .i64 d.n) ∧ w.cell? ⟨b, o + i * 6 + 2, none⟩ = some (.string d.name) ∧
      w.cell? ⟨b, o + i * 6 + 3, none⟩ = some (.int .i64 d.stamp) ∧ w.cell? ⟨b, o + i * 6 + 4, none⟩ = some (.int .i64 d.lib) ∧ w.cell? ⟨b, o + i * 6 + 5, none⟩ = some (.slice a' d.kids.length cap) ∧
      d.name.size ≤ maxLen ∧ d.kids.length ≤ cap ∧ Dn w f' a' d.kids := by
  cases f with
  | zero => exact absurd h h0
  | succ f =>
    obtain ⟨_, h | ⟨b, o, h1, h2, h3⟩⟩ := h
    · exact absurd h h0
    · exact ⟨f, b, o, rfl, h1, h2, h3⟩

/-- Rules lie in a world. -/
def Rn (w : World) (g : Nat) (a : Option Addr) (l : List (Dat × Dat)) : Prop := Rls w.heap.size w g a l
theorem Rn.lift {w w' : World} {g : Nat} {a : Option Addr} {l : List (Dat × Dat)} (h : Rn w g a l) (hb : Below w.heap.size w w') : Rn w' g a l := by
  have h := Rls.below h hb
  refine ⟨h.1, ?_⟩
  rcases h.2 with h | ⟨b, o, ha, hb2, h⟩
  · exact Or.inl h
  · refine Or.inr ⟨b, o, ha, Nat.lt_of_lt_of_le hb2 hb.size, fun i p t hd => ?_⟩
    obtain ⟨pa, ta, pc, tc, h1, h2, h3, h4, h5, h6, h7⟩ := h i p t hd
    exact ⟨pa, ta, pc, tc, h1, h2, h3, h4, h5, h6.mono hb.size, h7.mono hb.size⟩

theorem LC.upto {B : Nat} {w : World} {g : Nat} {a : Option Addr} {ds : List Dat} (h : LC B w g a ds) : ∀ (k : Nat), LC B w (g + k) a ds
  | 0 => h
  | k + 1 => (h.upto k).more

/-- One rule, in a block of its own. -/
theorem Rn.one {w : World} {N fp ft : Nat} {p t : Dat} {pa ta : Option Addr} {pc tc : Nat} (hN : w.heap[N]? = some (.cells (two p t pa ta pc tc) 43 (0, 0))) (hp : Dn w fp pa p.kids) (ht : Dn w ft ta t.kids) (h1 : p.name.size ≤ maxLen) (h2 : t.name.size ≤ maxLen) (h3 : p.kids.length ≤ pc) (h4 : t.kids.length ≤ tc) : Rn w (fp + ft) (some ⟨N, 0, none⟩) [(p, t)] := by
  refine ⟨by simp, Or.inr ⟨N, 0, rfl, (Array.getElem?_eq_some_iff.1 hN).1, fun i p' t' hd => ?_⟩⟩
  cases i with
  | zero =>
    simp at hd
    obtain ⟨rfl, rfl⟩ := hd
    refine ⟨pa, ta, pc, tc, fun q hq => ?_, h1, h2, h3, h4, ?_, ?_⟩
    · simp [World.cell?, hN]
    · have := hp.lc.upto ft
      rwa [show fp + 1 + ft = fp + ft + 1 by omega] at this
    · have := ht.lc.upto fp
      rwa [show ft + 1 + fp = fp + ft + 1 by omega] at this
  | succ i => simp at hd

/-- Use, of data that lie in the world at hand. -/
theorem Use_here (g gd : Nat) (lits : List ByteArray) (rules : List (Dat × Dat)) (la ra : Option Addr) (lc rc : Nat) (form : Dat) (fa : Option Addr) (fc : Nat) (sp lbb : Int) (w : World)
    (hs : Strs w.heap.size w la lits) (hr : Rn w g ra rules) (hf : Dn w gd fa form.kids) (hfc : form.kids.length ≤ fc) (hsr : smR rules) (hsm : smD form) :
    Calls Tryz.prog 11 #[mv lits rules la ra lc rc, dv form fa fc, .int .i64 sp, .int .i64 lbb] w (ToldU (useM lits rules form sp lbb) w) :=
  Use_any w.heap.size g gd lits rules la ra lc rc form fa fc sp lbb w hs hr hf.lc hfc (Nat.le_refl _) hsr hsm
theorem Strs.none (B : Nat) (w : World) (a : Option Addr) : Strs B w a [] := ⟨by simp, by simp, Or.inl rfl⟩

/-- Data lie in a world, elsewhere than in block N. -/
def DnX (w : World) (N f : Nat) (a : Option Addr) (ds : List Dat) : Prop := Dc (fun b => b < w.heap.size ∧ b ≠ N) w f a ds
theorem DnX.lift {w w' : World} {N f : Nat} {a : Option Addr} {ds : List Dat} (h : DnX w N f a ds) (hb : Below w.heap.size w w') : DnX w' N f a ds :=
  Dc.stay (fun k hk => hb.block k hk.1) (fun k hk => ⟨Nat.lt_of_lt_of_le hk.1 hb.size, hk.2⟩) f a ds h
theorem DnX.of {w0 w : World} {N f : Nat} {a : Option Addr} {ds : List Dat} (h : Dc (New w0 w) w f a ds) (hN : N < w0.heap.size) : DnX w N f a ds := Dc.stay (fun _ _ => rfl) (fun k hk => ⟨hk.2, by have := hk.1; omega⟩) f a ds h
theorem Dn.x {w w' : World} {f : Nat} {a : Option Addr} {ds : List Dat} (h : Dn w f a ds) (hb : Below w.heap.size w w') : DnX w' w.heap.size f a ds :=
  Dc.stay (fun k hk => hb.block k hk) (fun k hk => ⟨Nat.lt_of_lt_of_le hk hb.size, by omega⟩) f a ds h
theorem DnX.dn {w : World} {N f : Nat} {a : Option Addr} {ds : List Dat} (h : DnX w N f a ds) : Dn w f a ds := Dc.stay (fun _ _ => rfl) (fun k hk => hk.1) f a ds h
theorem DnX.store {w : World} {N f : Nat} {a : Option Addr} {ds : List Dat} (h : DnX w N f a ds) (v0 v1 v2 v3 v4 v5 : Value) : Dn ((((((w.setCell ⟨N, 0, none⟩ v0).setCell ⟨N, 1, none⟩ v1).setCell ⟨N, 2, none⟩ v2).setCell ⟨N, 3, none⟩ v3).setCell ⟨N, 4, none⟩ v4).setCell ⟨N, 5, none⟩ v5) f a ds := by
  have hh := six_heap w N v0 v1 v2 v3 v4 v5
  exact Dc.stay (fun k hk => hh.1 k hk.2) (fun k hk => by rw [hh.2]; exact hk.1) f a ds h
theorem below_sixN {w0 w : World} {N : Nat} (h : Below w0.heap.size w0 w) (hN : w0.heap.size ≤ N) (v0 v1 v2 v3 v4 v5 : Value) : Below w0.heap.size w0 ((((((w.setCell ⟨N, 0, none⟩ v0).setCell ⟨N, 1, none⟩ v1).setCell ⟨N, 2, none⟩ v2).setCell ⟨N, 3, none⟩ v3).setCell ⟨N, 4, none⟩ v4).setCell ⟨N, 5, none⟩ v5) :=
  (((((h.setCell (p := ⟨N, 0, none⟩) hN v0).setCell (p := ⟨N, 1, none⟩) hN v1).setCell (p := ⟨N, 2, none⟩) hN v2).setCell (p := ⟨N, 3, none⟩) hN v3).setCell (p := ⟨N, 4, none⟩) hN v4).setCell (p := ⟨N, 5, none⟩) hN v5
end Go.Proofs.YtceapbliljiplaeGreatDoor
