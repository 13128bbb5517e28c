/- Chapter 5's laws: MacroSelf, walked. -/
import Derived.Test.YtceapbliljiplaeGreatDoorK47
namespace Go.Proofs.YtceapbliljiplaeGreatDoor
set_option linter.unusedVariables false
set_option linter.unusedSimpArgs false
open Go.RowKit Go.Maps Go.WideMaps

set_option maxRecDepth 100000 in
set_option maxHeartbeats 6400000 in
theorem MacroSelf_walk (d : Dat) (a : Option Addr) (cap fd : Nat) (n : Int) (w : World) (hd : Dn w fd a d.kids) (hcap : d.kids.length ≤ cap) (hsm : smD d) (hnm : d.name.size ≤ maxLen) :
    Calls Tryz.prog 6 #[dv d a cap, .int .i64 n] w fun e w' => e = .returned (.bool true) ∧ Below w.heap.size w w' := by
  have O0 : Hid (∀ W, Calls Tryz.prog 18 #[.string ⟨#[40, 109, 32, 120, 41]⟩] W (ToldO (pS) W)) := fun W => one_any _ _ (by decide) readPS W
  have O1 : Hid (∀ W, Calls Tryz.prog 18 #[.string ⟨#[120]⟩] W (ToldO (symD xS) W)) := fun W => one_any _ _ (by decide) readX W
  have O2 : Hid (∀ W, Calls Tryz.prog 18 #[.string ⟨#[40, 109, 32, 120, 32, 46, 46, 46, 41]⟩] W (ToldO (pE) W)) := fun W => one_any _ _ (by decide) readPE W
  have O3 : Hid (∀ W, Calls Tryz.prog 18 #[.string ⟨#[40, 120, 32, 46, 46, 46, 41]⟩] W (ToldO (tE) W)) := fun W => one_any _ _ (by decide) readTE W
  obtain ⟨r1, y1, hu1⟩ : ∃ r y, useM [] selfR (listD [numD n, d]) 1 1 = (r, y) := ⟨_, _, rfl⟩
  obtain ⟨r2, y2, hu2⟩ : ∃ r y, useM [] eachR (listD [numD n, d, d]) 1 1 = (r, y) := ⟨_, _, rfl⟩
  have Y1 : Hid ((y1 = 4) ∨ (y1 = 0 ∧ r1 = bareD d)) := by
    rw [use_self] at hu1
    split at hu1
    · cases hu1; exact .inl rfl
    · cases hu1; exact .inr ⟨rfl, rfl⟩
  have Y2 : Hid ((y2 = 4) ∨ (y2 = 0 ∧ r2 = bareD (listD [d, d]))) := by
    have hq := use_each [d, d] (numD n) 1 1
    rw [hu2] at hq
    split at hq
    · cases hq; exact .inl rfl
    · cases hq; exact .inr ⟨rfl, rfl⟩
  have U1 := hidd hu1
  have U2 := hidd hu2
  clear hu1 hu2
  have H0 : Hid ((w.alloc (.cells #[.int .i64 d.kind, .int .i64 d.n, .string d.name, .int .i64 d.stamp, .int .i64 d.lib, .slice a d.kids.length cap] 28)).heap[w.heap.size]? = some (.cells #[.int .i64 d.kind, .int .i64 d.n, .string d.name, .int .i64 d.stamp, .int .i64 d.lib, .slice a d.kids.length cap] 28 (0, 0)) ∧ Below w.heap.size w (w.alloc (.cells #[.int .i64 d.kind, .int .i64 d.n, .string d.name, .int .i64 d.stamp, .int .i64 d.lib, .slice a d.kids.length cap] 28)) ∧ Dn (w.alloc (.cells #[.int .i64 d.kind, .int .i64 d.n, .string d.name, .int .i64 d.stamp, .int .i64 d.lib, .slice a d.kids.length cap] 28)) fd a d.kids) := ⟨World.alloc_heap_new w _, (Below.refl _ _).alloc (Nat.le_refl _) _, hd.lift ((Below.refl _ _).alloc (Nat.le_refl _) _)⟩
  clear hd
  unfold dv
  go_enter Tryz.func6, Tryz.ntmps6
  go_wp2_with fail
  refine (alive_any _).mono ?_
  rintro e v0 ⟨rfl, hb⟩
  have F0 : Hid (v0.heap[w.heap.size]? = some (.cells #[.int .i64 d.kind, .int .i64 d.n, .string d.name, .int .i64 d.stamp, .int .i64 d.lib, .slice a d.kids.length cap] 28 (0, 0)) ∧ Below w.heap.size w v0 ∧ Dn v0 fd a d.kids) := ⟨(hb.block _ (Array.getElem?_eq_some_iff.1 H0.out.1).1).trans H0.out.1, H0.out.2.1.trans (hb.mono H0.out.2.1.size), H0.out.2.2.lift hb⟩
  clear hb H0
  go_wp2_with fail
  refine (O0.out _).mono ?_
  rintro e v1 ⟨hb, pa, pc, pf, rfl, hc, hdd⟩
  have F1 : Hid ((v1.heap[w.heap.size]? = some (.cells #[.int .i64 d.kind, .int .i64 d.n, .string d.name, .int .i64 d.stamp, .int .i64 d.lib, .slice a d.kids.length cap] 28 (0, 0))) ∧ (Below w.heap.size w v1) ∧ (Dn v1 fd a d.kids) ∧ ((pS).kids.length ≤ pc ∧ Dn v1 pf pa (pS).kids)) := ⟨(hb.block _ (Array.getElem?_eq_some_iff.1 F0.out.1).1).trans F0.out.1, F0.out.2.1.trans (hb.mono F0.out.2.1.size), F0.out.2.2.lift hb, ⟨hc, Dn.of hdd⟩⟩
  clear hb hc hdd F0
  unfold dv
  go_wp2_with fail
  refine (O1.out _).mono ?_
  rintro e v2 ⟨hb, xa, xc, xf, rfl, hc, hdd⟩
  have F2 : Hid ((v2.heap[w.heap.size]? = some (.cells #[.int .i64 d.kind, .int .i64 d.n, .string d.name, .int .i64 d.stamp, .int .i64 d.lib, .slice a d.kids.length cap] 28 (0, 0))) ∧ (Below w.heap.size w v2) ∧ (Dn v2 fd a d.kids) ∧ ((pS).kids.length ≤ pc ∧ Dn v2 pf pa (pS).kids) ∧ ((symD xS).kids.length ≤ xc ∧ Dn v2 xf xa (symD xS).kids)) := ⟨(hb.block _ (Array.getElem?_eq_some_iff.1 F1.out.1).1).trans F1.out.1, F1.out.2.1.trans (hb.mono F1.out.2.1.size), F1.out.2.2.1.lift hb, ⟨F1.out.2.2.2.1, F1.out.2.2.2.2.lift hb⟩, ⟨hc, Dn.of hdd⟩⟩
  clear hb hc hdd F1
  unfold dv
  go_wp2_with fail
  have F3 : Hid ((((v2.alloc (.cells #[.int .i64 (pS).kind, .int .i64 (pS).n, .string (pS).name, .int .i64 (pS).stamp, .int .i64 (pS).lib, .slice pa (pS).kids.length pc, .int .i64 (symD xS).kind, .int .i64 (symD xS).n, .string (symD xS).name, .int .i64 (symD xS).stamp, .int .i64 (symD xS).lib, .slice xa (symD xS).kids.length xc] 43)).alloc (.cells #[.slice none 0 0, .slice (some ⟨v2.heap.size, 0, none⟩) 1 1] 25)).heap[w.heap.size]? = some (.cells #[.int .i64 d.kind, .int .i64 d.n, .string d.name, .int .i64 d.stamp, .int .i64 d.lib, .slice a d.kids.length cap] 28 (0, 0))) ∧ (Below w.heap.size w ((v2.alloc (.cells #[.int .i64 (pS).kind, .int .i64 (pS).n, .string (pS).name, .int .i64 (pS).stamp, .int .i64 (pS).lib, .slice pa (pS).kids.length pc, .int .i64 (symD xS).kind, .int .i64 (symD xS).n, .string (symD xS).name, .int .i64 (symD xS).stamp, .int .i64 (symD xS).lib, .slice xa (symD xS).kids.length xc] 43)).alloc (.cells #[.slice none 0 0, .slice (some ⟨v2.heap.size, 0, none⟩) 1 1] 25))) ∧ (Dn ((v2.alloc (.cells #[.int .i64 (pS).kind, .int .i64 (pS).n, .string (pS).name, .int .i64 (pS).stamp, .int .i64 (pS).lib, .slice pa (pS).kids.length pc, .int .i64 (symD xS).kind, .int .i64 (symD xS).n, .string (symD xS).name, .int .i64 (symD xS).stamp, .int .i64 (symD xS).lib, .slice xa (symD xS).kids.length xc] 43)).alloc (.cells #[.slice none 0 0, .slice (some ⟨v2.heap.size, 0, none⟩) 1 1] 25)) fd a d.kids) ∧ (∃ g, Rn ((v2.alloc (.cells #[.int .i64 (pS).kind, .int .i64 (pS).n, .string (pS).name, .int .i64 (pS).stamp, .int .i64 (pS).lib, .slice pa (pS).kids.length pc, .int .i64 (symD xS).kind, .int .i64 (symD xS).n, .string (symD xS).name, .int .i64 (symD xS).stamp, .int .i64 (symD xS).lib, .slice xa (symD xS).kids.length xc] 43)).alloc (.cells #[.slice none 0 0, .slice (some ⟨v2.heap.size, 0, none⟩) 1 1] 25)) g (some ⟨v2.heap.size, 0, none⟩) selfR) ∧ (((v2.alloc (.cells #[.int .i64 (pS).kind, .int .i64 (pS).n, .string (pS).name, .int .i64 (pS).stamp, .int .i64 (pS).lib, .slice pa (pS).kids.length pc, .int .i64 (symD xS).kind, .int .i64 (symD xS).n, .string (symD xS).name, .int .i64 (symD xS).stamp, .int .i64 (symD xS).lib, .slice xa (symD xS).kids.length xc] 43)).alloc (.cells #[.slice none 0 0, .slice (some ⟨v2.heap.size, 0, none⟩) 1 1] 25)).heap[v2.heap.size + 1]? = some (.cells #[.slice none 0 0, .slice (some ⟨v2.heap.size, 0, none⟩) 1 1] 25 (0, 0)))) := by
      have hb : Below v2.heap.size v2 ((v2.alloc (.cells #[.int .i64 (pS).kind, .int .i64 (pS).n, .string (pS).name, .int .i64 (pS).stamp, .int .i64 (pS).lib, .slice pa (pS).kids.length pc, .int .i64 (symD xS).kind, .int .i64 (symD xS).n, .string (symD xS).name, .int .i64 (symD xS).stamp, .int .i64 (symD xS).lib, .slice xa (symD xS).kids.length xc] 43)).alloc (.cells #[.slice none 0 0, .slice (some ⟨v2.heap.size, 0, none⟩) 1 1] 25)) := ((Below.refl _ _).alloc (Nat.le_refl _) _).alloc (by simp) _
      refine ⟨(hb.block _ (Array.getElem?_eq_some_iff.1 F2.out.1).1).trans F2.out.1, F2.out.2.1.trans (hb.mono F2.out.2.1.size), F2.out.2.2.1.lift hb, ⟨_, Rn.one (N := v2.heap.size) ?_ (F2.out.2.2.2.1.2.lift hb) (F2.out.2.2.2.2.2.lift hb) (by decide) (by decide) F2.out.2.2.2.1.1 F2.out.2.2.2.2.1⟩, ?_⟩
      · rw [Below.heap_alloc _ _ _ (by simp)]
        exact World.alloc_heap_new v2 _
      · have := World.alloc_heap_new (v2.alloc (.cells #[.int .i64 (pS).kind, .int .i64 (pS).n, .string (pS).name, .int .i64 (pS).stamp, .int .i64 (pS).lib, .slice pa (pS).kids.length pc, .int .i64 (symD xS).kind, .int .i64 (symD xS).n, .string (symD xS).name, .int .i64 (symD xS).stamp, .int .i64 (symD xS).lib, .slice xa (symD xS).kids.length xc] 43)) (.cells #[.slice none 0 0, .slice (some ⟨v2.heap.size, 0, none⟩) 1 1] 25)
        rwa [World.size_alloc] at this
  clear F2
  generalize ((v2.alloc (.cells #[.int .i64 (pS).kind, .int .i64 (pS).n, .string (pS).name, .int .i64 (pS).stamp, .int .i64 (pS).lib, .slice pa (pS).kids.length pc, .int .i64 (symD xS).kind, .int .i64 (symD xS).n, .string (symD xS).name, .int .i64 (symD xS).stamp, .int .i64 (symD xS).lib, .slice xa (symD xS).kids.length xc] 43)).alloc (.cells #[.slice none 0 0, .slice (some ⟨v2.heap.size, 0, none⟩) 1 1] 25)) = v3 at F3
  generalize v2.heap.size + 1 = mb1 at F3
  generalize v2.heap.size = rb1 at F3
  refine (O2.out _).mono ?_
  rintro e v4 ⟨hb, qa, qc, qf, rfl, hc, hdd⟩
  have F4 : Hid ((v4.heap[w.heap.size]? = some (.cells #[.int .i64 d.kind, .int .i64 d.n, .string d.name, .int .i64 d.stamp, .int .i64 d.lib, .slice a d.kids.length cap] 28 (0, 0))) ∧ (Below w.heap.size w v4) ∧ (Dn v4 fd a d.kids) ∧ (∃ g, Rn v4 g (some ⟨rb1, 0, none⟩) selfR) ∧ (v4.heap[mb1]? = some (.cells #[.slice none 0 0, .slice (some ⟨rb1, 0, none⟩) 1 1] 25 (0, 0))) ∧ ((pE).kids.length ≤ qc ∧ Dn v4 qf qa (pE).kids)) := ⟨(hb.block _ (Array.getElem?_eq_some_iff.1 F3.out.1).1).trans F3.out.1, F3.out.2.1.trans (hb.mono F3.out.2.1.size), F3.out.2.2.1.lift hb, (⟨_, F3.out.2.2.2.1.choose_spec.lift hb⟩), (hb.block _ (Array.getElem?_eq_some_iff.1 F3.out.2.2.2.2).1).trans F3.out.2.2.2.2, ⟨hc, Dn.of hdd⟩⟩
  clear hb hc hdd F3
  unfold dv
  go_wp2_with fail
  refine (O3.out _).mono ?_
  rintro e v5 ⟨hb, ya, yc, yf, rfl, hc, hdd⟩
  have F5 : Hid ((v5.heap[w.heap.size]? = some (.cells #[.int .i64 d.kind, .int .i64 d.n, .string d.name, .int .i64 d.stamp, .int .i64 d.lib, .slice a d.kids.length cap] 28 (0, 0))) ∧ (Below w.heap.size w v5) ∧ (Dn v5 fd a d.kids) ∧ (∃ g, Rn v5 g (some ⟨rb1, 0, none⟩) selfR) ∧ (v5.heap[mb1]? = some (.cells #[.slice none 0 0, .slice (some ⟨rb1, 0, none⟩) 1 1] 25 (0, 0))) ∧ ((pE).kids.length ≤ qc ∧ Dn v5 qf qa (pE).kids) ∧ ((tE).kids.length ≤ yc ∧ Dn v5 yf ya (tE).kids)) := ⟨(hb.block _ (Array.getElem?_eq_some_iff.1 F4.out.1).1).trans F4.out.1, F4.out.2.1.trans (hb.mono F4.out.2.1.size), F4.out.2.2.1.lift hb, (⟨_, F4.out.2.2.2.1.choose_spec.lift hb⟩), (hb.block _ (Array.getElem?_eq_some_iff.1 F4.out.2.2.2.2.1).1).trans F4.out.2.2.2.2.1, ⟨F4.out.2.2.2.2.2.1, F4.out.2.2.2.2.2.2.lift hb⟩, ⟨hc, Dn.of hdd⟩⟩
  clear hb hc hdd F4
  unfold dv
  go_upto_region 5 with fail
  have F6 : Hid ((((v5.alloc (.cells #[.int .i64 (pE).kind, .int .i64 (pE).n, .string (pE).name, .int .i64 (pE).stamp, .int .i64 (pE).lib, .slice qa (pE).kids.length qc, .int .i64 (tE).kind, .int .i64 (tE).n, .string (tE).name, .int .i64 (tE).stamp, .int .i64 (tE).lib, .slice ya (tE).kids.length yc] 43)).alloc (.cells #[.slice none 0 0, .slice (some ⟨v5.heap.size, 0, none⟩) 1 1] 25)).heap[w.heap.size]? = some (.cells #[.int .i64 d.kind, .int .i64 d.n, .string d.name, .int .i64 d.stamp, .int .i64 d.lib, .slice a d.kids.length cap] 28 (0, 0))) ∧ (Below w.heap.size w ((v5.alloc (.cells #[.int .i64 (pE).kind, .int .i64 (pE).n, .string (pE).name, .int .i64 (pE).stamp, .int .i64 (pE).lib, .slice qa (pE).kids.length qc, .int .i64 (tE).kind, .int .i64 (tE).n, .string (tE).name, .int .i64 (tE).stamp, .int .i64 (tE).lib, .slice ya (tE).kids.length yc] 43)).alloc (.cells #[.slice none 0 0, .slice (some ⟨v5.heap.size, 0, none⟩) 1 1] 25))) ∧ (Dn ((v5.alloc (.cells #[.int .i64 (pE).kind, .int .i64 (pE).n, .string (pE).name, .int .i64 (pE).stamp, .int .i64 (pE).lib, .slice qa (pE).kids.length qc, .int .i64 (tE).kind, .int .i64 (tE).n, .string (tE).name, .int .i64 (tE).stamp, .int .i64 (tE).lib, .slice ya (tE).kids.length yc] 43)).alloc (.cells #[.slice none 0 0, .slice (some ⟨v5.heap.size, 0, none⟩) 1 1] 25)) fd a d.kids) ∧ (∃ g, Rn ((v5.alloc (.cells #[.int .i64 (pE).kind, .int .i64 (pE).n, .string (pE).name, .int .i64 (pE).stamp, .int .i64 (pE).lib, .slice qa (pE).kids.length qc, .int .i64 (tE).kind, .int .i64 (tE).n, .string (tE).name, .int .i64 (tE).stamp, .int .i64 (tE).lib, .slice ya (tE).kids.length yc] 43)).alloc (.cells #[.slice none 0 0, .slice (some ⟨v5.heap.size, 0, none⟩) 1 1] 25)) g (some ⟨rb1, 0, none⟩) selfR) ∧ (((v5.alloc (.cells #[.int .i64 (pE).kind, .int .i64 (pE).n, .string (pE).name, .int .i64 (pE).stamp, .int .i64 (pE).lib, .slice qa (pE).kids.length qc, .int .i64 (tE).kind, .int .i64 (tE).n, .string (tE).name, .int .i64 (tE).stamp, .int .i64 (tE).lib, .slice ya (tE).kids.length yc] 43)).alloc (.cells #[.slice none 0 0, .slice (some ⟨v5.heap.size, 0, none⟩) 1 1] 25)).heap[mb1]? = some (.cells #[.slice none 0 0, .slice (some ⟨rb1, 0, none⟩) 1 1] 25 (0, 0))) ∧ (∃ g, Rn ((v5.alloc (.cells #[.int .i64 (pE).kind, .int .i64 (pE).n, .string (pE).name, .int .i64 (pE).stamp, .int .i64 (pE).lib, .slice qa (pE).kids.length qc, .int .i64 (tE).kind, .int .i64 (tE).n, .string (tE).name, .int .i64 (tE).stamp, .int .i64 (tE).lib, .slice ya (tE).kids.length yc] 43)).alloc (.cells #[.slice none 0 0, .slice (some ⟨v5.heap.size, 0, none⟩) 1 1] 25)) g (some ⟨v5.heap.size, 0, none⟩) eachR) ∧ (((v5.alloc (.cells #[.int .i64 (pE).kind, .int .i64 (pE).n, .string (pE).name, .int .i64 (pE).stamp, .int .i64 (pE).lib, .slice qa (pE).kids.length qc, .int .i64 (tE).kind, .int .i64 (tE).n, .string (tE).name, .int .i64 (tE).stamp, .int .i64 (tE).lib, .slice ya (tE).kids.length yc] 43)).alloc (.cells #[.slice none 0 0, .slice (some ⟨v5.heap.size, 0, none⟩) 1 1] 25)).heap[v5.heap.size + 1]? = some (.cells #[.slice none 0 0, .slice (some ⟨v5.heap.size, 0, none⟩) 1 1] 25 (0, 0)))) := by
      have hb : Below v5.heap.size v5 ((v5.alloc (.cells #[.int .i64 (pE).kind, .int .i64 (pE).n, .string (pE).name, .int .i64 (pE).stamp, .int .i64 (pE).lib, .slice qa (pE).kids.length qc, .int .i64 (tE).kind, .int .i64 (tE).n, .string (tE).name, .int .i64 (tE).stamp, .int .i64 (tE).lib, .slice ya (tE).kids.length yc] 43)).alloc (.cells #[.slice none 0 0, .slice (some ⟨v5.heap.size, 0, none⟩) 1 1] 25)) := ((Below.refl _ _).alloc (Nat.le_refl _) _).alloc (by simp) _
      refine ⟨(hb.block _ (Array.getElem?_eq_some_iff.1 F5.out.1).1).trans F5.out.1, F5.out.2.1.trans (hb.mono F5.out.2.1.size), F5.out.2.2.1.lift hb, (⟨_, F5.out.2.2.2.1.choose_spec.lift hb⟩), (hb.block _ (Array.getElem?_eq_some_iff.1 F5.out.2.2.2.2.1).1).trans F5.out.2.2.2.2.1, ⟨_, Rn.one (N := v5.heap.size) ?_ (F5.out.2.2.2.2.2.1.2.lift hb) (F5.out.2.2.2.2.2.2.2.lift hb) (by decide) (by decide) F5.out.2.2.2.2.2.1.1 F5.out.2.2.2.2.2.2.1⟩, ?_⟩
      · rw [Below.heap_alloc _ _ _ (by simp)]
        exact World.alloc_heap_new v5 _
      · have := World.alloc_heap_new (v5.alloc (.cells #[.int .i64 (pE).kind, .int .i64 (pE).n, .string (pE).name, .int .i64 (pE).stamp, .int .i64 (pE).lib, .slice qa (pE).kids.length qc, .int .i64 (tE).kind, .int .i64 (tE).n, .string (tE).name, .int .i64 (tE).stamp, .int .i64 (tE).lib, .slice ya (tE).kids.length yc] 43)) (.cells #[.slice none 0 0, .slice (some ⟨v5.heap.size, 0, none⟩) 1 1] 25)
        rwa [World.size_alloc] at this
  clear F5
  generalize ((v5.alloc (.cells #[.int .i64 (pE).kind, .int .i64 (pE).n, .string (pE).name, .int .i64 (pE).stamp, .int .i64 (pE).lib, .slice qa (pE).kids.length qc, .int .i64 (tE).kind, .int .i64 (tE).n, .string (tE).name, .int .i64 (tE).stamp, .int .i64 (tE).lib, .slice ya (tE).kids.length yc] 43)).alloc (.cells #[.slice none 0 0, .slice (some ⟨v5.heap.size, 0, none⟩) 1 1] 25)) = W0 at F6
  generalize v5.heap.size + 1 = mb2 at F6
  generalize v5.heap.size = rb2 at F6
  go_cut [7, 8] from 23 to 32 (fun s7 s8 wx => ∃ N a c f, s7 = .pointer (some ⟨N, 0, none⟩) ∧ s8 = .int .i64 y1 ∧ Nod N r1 (.slice a r1.kids.length c) wx ∧ r1.kids.length ≤ c ∧ Dn wx f a r1.kids ∧ Below W0.heap.size W0 wx)
  case first =>
    have e0 : W0.cell? ⟨w.heap.size, 0, none⟩ = some (.int .i64 d.kind) := by simp [World.cell?, F6.out.1]
    have e1 : W0.cell? ⟨w.heap.size, 1, none⟩ = some (.int .i64 d.n) := by simp [World.cell?, F6.out.1]
    have e2 : W0.cell? ⟨w.heap.size, 2, none⟩ = some (.string d.name) := by simp [World.cell?, F6.out.1]
    have e3 : W0.cell? ⟨w.heap.size, 3, none⟩ = some (.int .i64 d.stamp) := by simp [World.cell?, F6.out.1]
    have e4 : W0.cell? ⟨w.heap.size, 4, none⟩ = some (.int .i64 d.lib) := by simp [World.cell?, F6.out.1]
    have e5 : W0.cell? ⟨w.heap.size, 5, none⟩ = some (.slice a d.kids.length cap) := by simp [World.cell?, F6.out.1]
    have hbd : w.heap.size < W0.heap.size := (Array.getElem?_eq_some_iff.1 F6.out.1).1
    have hmb : mb1 < W0.heap.size := (Array.getElem?_eq_some_iff.1 F6.out.2.2.2.2.1).1
    have m0 : W0.cell? ⟨mb1, 0, none⟩ = some (.slice none 0 0) := by simp [World.cell?, F6.out.2.2.2.2.1]
    have m1 : W0.cell? ⟨mb1, 1, none⟩ = some (.slice (some ⟨rb1, 0, none⟩) 1 1) := by simp [World.cell?, F6.out.2.2.2.2.1]
    obtain ⟨g, hg⟩ := F6.out.2.2.2.1
    have RL : Hid (Rn W0 g (some ⟨rb1, 0, none⟩) selfR) := hg
    have DD : Hid (Dn W0 fd a d.kids) := F6.out.2.2.1
    clear hg
    refine wp_region_held_drew (S := fun u => Below W0.heap.size W0 u) (by kernel_rfl) (Below.drew (Below.refl _ _)) (fun hS => ?_)
    refine wpAnyH_take (i := 0) (oi := { dst := some 24, op := Op.load 25 (Operand.tmp 5), type := 25, pos := _, after := _, guard := none }) (v := .agg #[.slice none 0 0, .slice (some ⟨rb1, 0, none⟩) 1 1]) rfl (by kernel_rfl) (by kernel_rfl) (by kernel_rfl) (fun _ _ _ h => h) (Or.inl ⟨by rfl, fun u hu => by (have z0 := (hu.cell (p := ⟨mb1, 0, none⟩) hmb).trans m0; have z1 := (hu.cell (p := ⟨mb1, 1, none⟩) hmb).trans m1; go_simp)⟩) hS ?_
    simp only [Act.put, List.setIfInBounds_toArray, List.set_cons_zero, List.set_cons_succ]
    refine wpAnyH_take (i := 1) (oi := { dst := some 25, op := Op.move (Operand.tmp 1), type := 2, pos := _, after := _, guard := none }) (v := .int .i64 n) rfl (by kernel_rfl) (by kernel_rfl) (by kernel_rfl) (fun _ _ _ h => h) (Or.inl ⟨by rfl, fun u hu => by go_simp⟩) hS ?_
    simp only [Act.put, List.setIfInBounds_toArray, List.set_cons_zero, List.set_cons_succ]
    refine wpAnyH_take (i := 3) (oi := { dst := some 27, op := Op.load 28 (Operand.tmp 2), type := 28, pos := _, after := _, guard := none }) (v := .agg #[.int .i64 d.kind, .int .i64 d.n, .string d.name, .int .i64 d.stamp, .int .i64 d.lib, .slice a d.kids.length cap]) rfl (by kernel_rfl) (by kernel_rfl) (by kernel_rfl) (fun _ _ _ h => h) (Or.inl ⟨by rfl, fun u hu => by (have z0 := (hu.cell (p := ⟨w.heap.size, 0, none⟩) hbd).trans e0; have z1 := (hu.cell (p := ⟨w.heap.size, 1, none⟩) hbd).trans e1; have z2 := (hu.cell (p := ⟨w.heap.size, 2, none⟩) hbd).trans e2; have z3 := (hu.cell (p := ⟨w.heap.size, 3, none⟩) hbd).trans e3; have z4 := (hu.cell (p := ⟨w.heap.size, 4, none⟩) hbd).trans e4; have z5 := (hu.cell (p := ⟨w.heap.size, 5, none⟩) hbd).trans e5; go_simp)⟩) hS ?_
    simp only [Act.put, List.setIfInBounds_toArray, List.set_cons_zero, List.set_cons_succ]
    refine wpAnyH_ready (rs := [2, 10]) (by kernel_rfl) (by simp) (AllReadyH.cons (o := { dst := some 26, op := Op.call { callee := Callee.value (Operand.func 20), args := #[Operand.tmp 25], argTypes := #[2] }, type := 28, pos := _, after := _, guard := none }) rfl (fun K hK => ?_) (AllReadyH.cons (o := { dst := some 7, op := Op.alloc 28, type := 0, pos := _, after := _, guard := none }) rfl (fun K hK => ?_) AllReadyH.nil))
    · go_simp
      refine Calls.mono (Num_any n W0.drew) ?_
      rintro e W1 ⟨rfl, hb1⟩
      have hS1 := hS.trans (hb1.mono hS.size)
      clear hb1
      try unfold dv
      show K _ W1
      refine hK.out _ _ hS1 (fun hS => ?_)
      clear hK K
      refine wpAnyH_ready (rs := [4, 10]) (by kernel_rfl) (by simp) (AllReadyH.cons (o := { dst := some 28, op := Op.buildSlice 26 2 #[(0, Operand.tmp 26), (1, Operand.tmp 27)], type := 26, pos := _, after := _, guard := none }) rfl (fun K hK => ?_) (AllReadyH.cons (o := { dst := some 7, op := Op.alloc 28, type := 0, pos := _, after := _, guard := none }) rfl (fun K hK => ?_) AllReadyH.nil))
      · go_simp
        have hb2 : Below W1.heap.size W1 (W1.alloc (.cells #[.int .i64 (numD n).kind, .int .i64 (numD n).n, .string (numD n).name, .int .i64 (numD n).stamp, .int .i64 (numD n).lib, .slice none (numD n).kids.length 0, .int .i64 d.kind, .int .i64 d.n, .string d.name, .int .i64 d.stamp, .int .i64 d.lib, .slice a d.kids.length cap] 28)) := (Below.refl _ _).alloc (Nat.le_refl _) _
        have hN2 : (W1.alloc (.cells #[.int .i64 (numD n).kind, .int .i64 (numD n).n, .string (numD n).name, .int .i64 (numD n).stamp, .int .i64 (numD n).lib, .slice none (numD n).kids.length 0, .int .i64 d.kind, .int .i64 d.n, .string d.name, .int .i64 d.stamp, .int .i64 d.lib, .slice a d.kids.length cap] 28)).heap[W1.heap.size]? = some (.cells #[.int .i64 (numD n).kind, .int .i64 (numD n).n, .string (numD n).name, .int .i64 (numD n).stamp, .int .i64 (numD n).lib, .slice none (numD n).kids.length 0, .int .i64 d.kind, .int .i64 d.n, .string d.name, .int .i64 d.stamp, .int .i64 d.lib, .slice a d.kids.length cap] 28 (0, 0)) := World.alloc_heap_new W1 _
        have hS2 := hS.trans (hb2.mono hS.size)
        change K _ (W1.alloc (.cells #[.int .i64 (numD n).kind, .int .i64 (numD n).n, .string (numD n).name, .int .i64 (numD n).stamp, .int .i64 (numD n).lib, .slice none (numD n).kids.length 0, .int .i64 d.kind, .int .i64 d.n, .string d.name, .int .i64 d.stamp, .int .i64 d.lib, .slice a d.kids.length cap] 28))
        generalize W1.alloc (.cells #[.int .i64 (numD n).kind, .int .i64 (numD n).n, .string (numD n).name, .int .i64 (numD n).stamp, .int .i64 (numD n).lib, .slice none (numD n).kids.length 0, .int .i64 d.kind, .int .i64 d.n, .string d.name, .int .i64 d.stamp, .int .i64 d.lib, .slice a d.kids.length cap] 28) = W2 at hb2 hN2 hS2 ⊢
        have BL_2 : Hid (W2.heap[W1.heap.size]? = some (.cells #[.int .i64 (numD n).kind, .int .i64 (numD n).n, .string (numD n).name, .int .i64 (numD n).stamp, .int .i64 (numD n).lib, .slice none (numD n).kids.length 0, .int .i64 d.kind, .int .i64 d.n, .string d.name, .int .i64 d.stamp, .int .i64 d.lib, .slice a d.kids.length cap] 28 (0, 0))) := hN2
        clear hb2 hN2
        refine hK.out _ _ hS2 (fun hS => ?_)
        clear hK K
        refine wpAnyH_ready (rs := [5, 10]) (by kernel_rfl) (by simp) (AllReadyH.cons (o := { dst := some 29, op := Op.call { callee := Callee.value (Operand.func 19), args := #[Operand.tmp 28], argTypes := #[26] }, type := 28, pos := _, after := _, guard := none }) rfl (fun K hK => ?_) (AllReadyH.cons (o := { dst := some 7, op := Op.alloc 28, type := 0, pos := _, after := _, guard := none }) rfl (fun K hK => ?_) AllReadyH.nil))
        · go_simp
          refine Calls.mono (List_any [numD n, d] (some ⟨W1.heap.size, 0, none⟩) 2 W2) ?_
          rintro e W3 ⟨rfl, hb3⟩
          have BL_3 : Hid (W3.heap[W1.heap.size]? = some (.cells #[.int .i64 (numD n).kind, .int .i64 (numD n).n, .string (numD n).name, .int .i64 (numD n).stamp, .int .i64 (numD n).lib, .slice none (numD n).kids.length 0, .int .i64 d.kind, .int .i64 d.n, .string d.name, .int .i64 d.stamp, .int .i64 d.lib, .slice a d.kids.length cap] 28 (0, 0))) := (hb3.block _ (Array.getElem?_eq_some_iff.1 BL_2.out).1).trans BL_2.out
          have hS3 := hS.trans (hb3.mono hS.size)
          clear hb3
          try unfold dv
          show K _ W3
          refine hK.out _ _ hS3 (fun hS => ?_)
          clear hK K
          refine wpAnyH_ready (rs := [6, 10]) (by kernel_rfl) (by simp) (AllReadyH.cons (o := { dst := some 30, op := Op.call { callee := Callee.value (Operand.func 11), args := #[Operand.tmp 24, Operand.tmp 29, Operand.const (Value.int IntKind.i64 1), Operand.const (Value.int IntKind.i64 1)], argTypes := #[25, 28, 3, 3] }, type := 32, pos := _, after := _, guard := none }) rfl (fun K hK => ?_) (AllReadyH.cons (o := { dst := some 7, op := Op.alloc 28, type := 0, pos := _, after := _, guard := none }) rfl (fun K hK => ?_) AllReadyH.nil))
          · go_simp
            have US4 := Use_here g _ [] selfR none (some ⟨rb1, 0, none⟩) 0 1 (listD [numD n, d]) (some ⟨W1.heap.size, 0, none⟩) 2 1 1 W3 (Strs.none _ _ _) (RL.out.lift hS) (Dn.row (F := fd) [((numD n), none, 0), (d, a, cap)] BL_3.out (by simp) (by intro e he; simp at he; rcases he with rfl | rfl <;> first | exact ⟨Nat.zero_le _, Nat.zero_le _, Dn.nil _ _ _⟩ | exact ⟨hnm, hcap, DD.out.lift hS⟩)) (by show 2 ≤ 2; omega) smSelf (smD_list (by intro x hx; simp at hx; rcases hx with rfl | rfl <;> first | exact smD_num _ | exact hsm))
            rw [U1.out] at US4
            refine Calls.mono US4 ?_
            clear US4
            rintro e W4 ⟨hb4, ra4, rc4, rf4, rfl, hc4, hd4⟩
            have BL_4 : Hid (W4.heap[W1.heap.size]? = some (.cells #[.int .i64 (numD n).kind, .int .i64 (numD n).n, .string (numD n).name, .int .i64 (numD n).stamp, .int .i64 (numD n).lib, .slice none (numD n).kids.length 0, .int .i64 d.kind, .int .i64 d.n, .string d.name, .int .i64 d.stamp, .int .i64 d.lib, .slice a d.kids.length cap] 28 (0, 0))) := (hb4.block _ (Array.getElem?_eq_some_iff.1 BL_3.out).1).trans BL_3.out
            have RE_4 : Hid (r1.kids.length ≤ rc4 ∧ Dn W4 rf4 ra4 r1.kids) := ⟨hc4, Dn.of hd4⟩
            have hS4 := hS.trans (hb4.mono hS.size)
            clear hb4 hc4 hd4
            unfold dv
            show K _ W4
            refine hK.out _ _ hS4 (fun hS => ?_)
            clear hK K
            refine wpAnyH_take (i := 7) (oi := { dst := some 23, op := Op.move (Operand.tmp 30), type := 32, pos := _, after := _, guard := none }) (v := .tuple #[.agg #[.int .i64 r1.kind, .int .i64 r1.n, .string r1.name, .int .i64 r1.stamp, .int .i64 r1.lib, .slice ra4 r1.kids.length rc4], .int .i64 y1]) rfl (by kernel_rfl) (by kernel_rfl) (by kernel_rfl) (fun _ _ _ h => h) (Or.inl ⟨by rfl, fun u hu => by go_simp⟩) hS ?_
            simp only [Act.put, List.setIfInBounds_toArray, List.set_cons_zero, List.set_cons_succ]
            refine wpAnyH_take (i := 8) (oi := { dst := some 31, op := Op.extract (Operand.tmp 23) 0, type := 28, pos := _, after := _, guard := none }) (v := .agg #[.int .i64 r1.kind, .int .i64 r1.n, .string r1.name, .int .i64 r1.stamp, .int .i64 r1.lib, .slice ra4 r1.kids.length rc4]) rfl (by kernel_rfl) (by kernel_rfl) (by kernel_rfl) (fun _ _ _ h => h) (Or.inl ⟨by rfl, fun u hu => by go_simp⟩) hS ?_
            simp only [Act.put, List.setIfInBounds_toArray, List.set_cons_zero, List.set_cons_succ]
            refine wpAnyH_take (i := 9) (oi := { dst := some 32, op := Op.extract (Operand.tmp 23) 1, type := 31, pos := _, after := _, guard := none }) (v := .int .i64 y1) rfl (by kernel_rfl) (by kernel_rfl) (by kernel_rfl) (fun _ _ _ h => h) (Or.inl ⟨by rfl, fun u hu => by go_simp⟩) hS ?_
            simp only [Act.put, List.setIfInBounds_toArray, List.set_cons_zero, List.set_cons_succ]
            refine wpAnyH_ready (rs := [10]) (by kernel_rfl) (by simp) (AllReadyH.cons (o := { dst := some 7, op := Op.alloc 28, type := 0, pos := _, after := _, guard := none }) rfl (fun K hK => ?_) AllReadyH.nil)
            go_simp
            have hb5 : Below W4.heap.size W4 (W4.alloc (.cells #[.int .i64 0, .int .i64 0, .string ⟨#[]⟩, .int .i64 0, .int .i64 0, .slice none 0 0] 28)) := (Below.refl _ _).alloc (Nat.le_refl _) _
            have hN5 : Nod W4.heap.size ⟨0, 0, ⟨#[]⟩, 0, 0, []⟩ (.slice none 0 0) (W4.alloc (.cells #[.int .i64 0, .int .i64 0, .string ⟨#[]⟩, .int .i64 0, .int .i64 0, .slice none 0 0] 28)) := Nod.made W4 ⟨0, 0, ⟨#[]⟩, 0, 0, []⟩ (.slice none 0 0)
            have hnb5 : W0.heap.size ≤ W4.heap.size := hS.size
            have hS5 := hS.trans (hb5.mono hS.size)
            change K _ (W4.alloc (.cells #[.int .i64 0, .int .i64 0, .string ⟨#[]⟩, .int .i64 0, .int .i64 0, .slice none 0 0] 28))
            generalize W4.alloc (.cells #[.int .i64 0, .int .i64 0, .string ⟨#[]⟩, .int .i64 0, .int .i64 0, .slice none 0 0] 28) = W5 at hb5 hN5 hS5 ⊢
            have RE_5 : Hid (r1.kids.length ≤ rc4 ∧ DnX W5 W4.heap.size rf4 ra4 r1.kids) := ⟨RE_4.out.1, RE_4.out.2.x hb5⟩
            have BL_5 : Hid (W5.heap[W1.heap.size]? = some (.cells #[.int .i64 (numD n).kind, .int .i64 (numD n).n, .string (numD n).name, .int .i64 (numD n).stamp, .int .i64 (numD n).lib, .slice none (numD n).kids.length 0, .int .i64 d.kind, .int .i64 d.n, .string d.name, .int .i64 d.stamp, .int .i64 d.lib, .slice a d.kids.length cap] 28 (0, 0))) := (hb5.block _ (Array.getElem?_eq_some_iff.1 BL_4.out).1).trans BL_4.out
            have NO_5 : Hid (Nod W4.heap.size ⟨0, 0, ⟨#[]⟩, 0, 0, []⟩ (.slice none 0 0) W5 ∧ W0.heap.size ≤ W4.heap.size) := ⟨hN5, hnb5⟩
            clear hb5 hN5 hnb5
            refine hK.out _ _ hS5 (fun hS => ?_)
            clear hK K
            refine wpAnyH_ready (rs := [11]) (by kernel_rfl) (by simp) (AllReadyH.cons (o := { dst := none, op := Op.store 28 (Operand.tmp 7) (Operand.tmp 31), type := 0, pos := _, after := _, guard := none }) rfl (fun K hK => ?_) AllReadyH.nil)
            obtain ⟨q, q0, q1, q2, q3, q4, q5, qz⟩ := NO_5.out.1
            simp only at q0 q1 q2 q3 q4 q5
            go_simp
            refine hK.out _ _ (below_sixN hS NO_5.out.2 _ _ _ _ _ _) (fun hS => ?_)
            clear hK K
            refine wpAnyH_take (i := 12) (oi := { dst := some 8, op := Op.assign (Operand.tmp 32), type := 31, pos := _, after := _, guard := none }) (v := .int .i64 y1) rfl (by kernel_rfl) (by kernel_rfl) (by kernel_rfl) (fun _ _ _ h => h) (Or.inl ⟨by rfl, fun u hu => by go_simp⟩) hS ?_
            simp only [Act.put, List.setIfInBounds_toArray, List.set_cons_zero, List.set_cons_succ]
            refine wpAnyH_done (by kernel_rfl) ?_ _
            clear q q0 q1 q2 q3 q4 q5 qz
            go_wp2_with fail
            go_meet
            case rel =>
              exact ⟨_, _, _, _, rfl, rfl, NO_5.out.1.store r1 (.slice ra4 r1.kids.length rc4), RE_5.out.1, RE_5.out.2.store _ _ _ _ _ _, hS⟩
          · go_simp
            have hb4 : Below W3.heap.size W3 (W3.alloc (.cells #[.int .i64 0, .int .i64 0, .string ⟨#[]⟩, .int .i64 0, .int .i64 0, .slice none 0 0] 28)) := (Below.refl _ _).alloc (Nat.le_refl _) _
            have hN4 : Nod W3.heap.size ⟨0, 0, ⟨#[]⟩, 0, 0, []⟩ (.slice none 0 0) (W3.alloc (.cells #[.int .i64 0, .int .i64 0, .string ⟨#[]⟩, .int .i64 0, .int .i64 0, .slice none 0 0] 28)) := Nod.made W3 ⟨0, 0, ⟨#[]⟩, 0, 0, []⟩ (.slice none 0 0)
            have hnb4 : W0.heap.size ≤ W3.heap.size := hS.size
            have hS4 := hS.trans (hb4.mono hS.size)
            change K _ (W3.alloc (.cells #[.int .i64 0, .int .i64 0, .string ⟨#[]⟩, .int .i64 0, .int .i64 0, .slice none 0 0] 28))
            generalize W3.alloc (.cells #[.int .i64 0, .int .i64 0, .string ⟨#[]⟩, .int .i64 0, .int .i64 0, .slice none 0 0] 28) = W4 at hb4 hN4 hS4 ⊢
            have BL_4 : Hid (W4.heap[W1.heap.size]? = some (.cells #[.int .i64 (numD n).kind, .int .i64 (numD n).n, .string (numD n).name, .int .i64 (numD n).stamp, .int .i64 (numD n).lib, .slice none (numD n).kids.length 0, .int .i64 d.kind, .int .i64 d.n, .string d.name, .int .i64 d.stamp, .int .i64 d.lib, .slice a d.kids.length cap] 28 (0, 0))) := (hb4.block _ (Array.getElem?_eq_some_iff.1 BL_3.out).1).trans BL_3.out
            have NO_4 : Hid (Nod W3.heap.size ⟨0, 0, ⟨#[]⟩, 0, 0, []⟩ (.slice none 0 0) W4 ∧ W0.heap.size ≤ W3.heap.size) := ⟨hN4, hnb4⟩
            clear hb4 hN4 hnb4
            refine hK.out _ _ hS4 (fun hS => ?_)
            clear hK K
            refine wpAnyH_ready (rs := [6]) (by kernel_rfl) (by simp) (AllReadyH.cons (o := { dst := some 30, op := Op.call { callee := Callee.value (Operand.func 11), args := #[Operand.tmp 24, Operand.tmp 29, Operand.const (Value.int IntKind.i64 1), Operand.const (Value.int IntKind.i64 1)], argTypes := #[25, 28, 3, 3] }, type := 32, pos := _, after := _, guard := none }) rfl (fun K hK => ?_) AllReadyH.nil)
            go_simp
            have US5 := Use_here g _ [] selfR none (some ⟨rb1, 0, none⟩) 0 1 (listD [numD n, d]) (some ⟨W1.heap.size, 0, none⟩) 2 1 1 W4 (Strs.none _ _ _) (RL.out.lift hS) (Dn.row (F := fd) [((numD n), none, 0), (d, a, cap)] BL_4.out (by simp) (by intro e he; simp at he; rcases he with rfl | rfl <;> first | exact ⟨Nat.zero_le _, Nat.zero_le _, Dn.nil _ _ _⟩ | exact ⟨hnm, hcap, DD.out.lift hS⟩)) (by show 2 ≤ 2; omega) smSelf (smD_list (by intro x hx; simp at hx; rcases hx with rfl | rfl <;> first | exact smD_num _ | exact hsm))
            rw [U1.out] at US5
            refine Calls.mono US5 ?_
            clear US5
            rintro e W5 ⟨hb5, ra5, rc5, rf5, rfl, hc5, hd5⟩
            have hx5 := NO_4.out.1.lt
            have BL_5 : Hid (W5.heap[W1.heap.size]? = some (.cells #[.int .i64 (numD n).kind, .int .i64 (numD n).n, .string (numD n).name, .int .i64 (numD n).stamp, .int .i64 (numD n).lib, .slice none (numD n).kids.length 0, .int .i64 d.kind, .int .i64 d.n, .string d.name, .int .i64 d.stamp, .int .i64 d.lib, .slice a d.kids.length cap] 28 (0, 0))) := (hb5.block _ (Array.getElem?_eq_some_iff.1 BL_4.out).1).trans BL_4.out
            have NO_5 : Hid (Nod W3.heap.size ⟨0, 0, ⟨#[]⟩, 0, 0, []⟩ (.slice none 0 0) W5 ∧ W0.heap.size ≤ W3.heap.size) := ⟨NO_4.out.1.after hb5, NO_4.out.2⟩
            have RE_5 : Hid (r1.kids.length ≤ rc5 ∧ DnX W5 (W3.heap.size) rf5 ra5 r1.kids) := ⟨hc5, DnX.of hd5 hx5⟩
            have hS5 := hS.trans (hb5.mono hS.size)
            clear hb5 hc5 hd5
            clear hx5
            unfold dv
            show K _ W5
            refine hK.out _ _ hS5 (fun hS => ?_)
            clear hK K
            refine wpAnyH_take (i := 7) (oi := { dst := some 23, op := Op.move (Operand.tmp 30), type := 32, pos := _, after := _, guard := none }) (v := .tuple #[.agg #[.int .i64 r1.kind, .int .i64 r1.n, .string r1.name, .int .i64 r1.stamp, .int .i64 r1.lib, .slice ra5 r1.kids.length rc5], .int .i64 y1]) rfl (by kernel_rfl) (by kernel_rfl) (by kernel_rfl) (fun _ _ _ h => h) (Or.inl ⟨by rfl, fun u hu => by go_simp⟩) hS ?_
            simp only [Act.put, List.setIfInBounds_toArray, List.set_cons_zero, List.set_cons_succ]
            refine wpAnyH_take (i := 8) (oi := { dst := some 31, op := Op.extract (Operand.tmp 23) 0, type := 28, pos := _, after := _, guard := none }) (v := .agg #[.int .i64 r1.kind, .int .i64 r1.n, .string r1.name, .int .i64 r1.stamp, .int .i64 r1.lib, .slice ra5 r1.kids.length rc5]) rfl (by kernel_rfl) (by kernel_rfl) (by kernel_rfl) (fun _ _ _ h => h) (Or.inl ⟨by rfl, fun u hu => by go_simp⟩) hS ?_
            simp only [Act.put, List.setIfInBounds_toArray, List.set_cons_zero, List.set_cons_succ]
            refine wpAnyH_take (i := 9) (oi := { dst := some 32, op := Op.extract (Operand.tmp 23) 1, type := 31, pos := _, after := _, guard := none }) (v := .int .i64 y1) rfl (by kernel_rfl) (by kernel_rfl) (by kernel_rfl) (fun _ _ _ h => h) (Or.inl ⟨by rfl, fun u hu => by go_simp⟩) hS ?_
            simp only [Act.put, List.setIfInBounds_toArray, List.set_cons_zero, List.set_cons_succ]
            refine wpAnyH_ready (rs := [11]) (by kernel_rfl) (by simp) (AllReadyH.cons (o := { dst := none, op := Op.store 28 (Operand.tmp 7) (Operand.tmp 31), type := 0, pos := _, after := _, guard := none }) rfl (fun K hK => ?_) AllReadyH.nil)
            obtain ⟨q, q0, q1, q2, q3, q4, q5, qz⟩ := NO_5.out.1
            simp only at q0 q1 q2 q3 q4 q5
            go_simp
            refine hK.out _ _ (below_sixN hS NO_5.out.2 _ _ _ _ _ _) (fun hS => ?_)
            clear hK K
            refine wpAnyH_take (i := 12) (oi := { dst := some 8, op := Op.assign (Operand.tmp 32), type := 31, pos := _, after := _, guard := none }) (v := .int .i64 y1) rfl (by kernel_rfl) (by kernel_rfl) (by kernel_rfl) (fun _ _ _ h => h) (Or.inl ⟨by rfl, fun u hu => by go_simp⟩) hS ?_
            simp only [Act.put, List.setIfInBounds_toArray, List.set_cons_zero, List.set_cons_succ]
            refine wpAnyH_done (by kernel_rfl) ?_ _
            clear q q0 q1 q2 q3 q4 q5 qz
            go_wp2_with fail
            go_meet
            case rel =>
              exact ⟨_, _, _, _, rfl, rfl, NO_5.out.1.store r1 (.slice ra5 r1.kids.length rc5), RE_5.out.1, RE_5.out.2.store _ _ _ _ _ _, hS⟩
        · go_simp
          have hb3 : Below W2.heap.size W2 (W2.alloc (.cells #[.int .i64 0, .int .i64 0, .string ⟨#[]⟩, .int .i64 0, .int .i64 0, .slice none 0 0] 28)) := (Below.refl _ _).alloc (Nat.le_refl _) _
          have hN3 : Nod W2.heap.size ⟨0, 0, ⟨#[]⟩, 0, 0, []⟩ (.slice none 0 0) (W2.alloc (.cells #[.int .i64 0, .int .i64 0, .string ⟨#[]⟩, .int .i64 0, .int .i64 0, .slice none 0 0] 28)) := Nod.made W2 ⟨0, 0, ⟨#[]⟩, 0, 0, []⟩ (.slice none 0 0)
          have hnb3 : W0.heap.size ≤ W2.heap.size := hS.size
          have hS3 := hS.trans (hb3.mono hS.size)
          change K _ (W2.alloc (.cells #[.int .i64 0, .int .i64 0, .string ⟨#[]⟩, .int .i64 0, .int .i64 0, .slice none 0 0] 28))
          generalize W2.alloc (.cells #[.int .i64 0, .int .i64 0, .string ⟨#[]⟩, .int .i64 0, .int .i64 0, .slice none 0 0] 28) = W3 at hb3 hN3 hS3 ⊢
          have BL_3 : Hid (W3.heap[W1.heap.size]? = some (.cells #[.int .i64 (numD n).kind, .int .i64 (numD n).n, .string (numD n).name, .int .i64 (numD n).stamp, .int .i64 (numD n).lib, .slice none (numD n).kids.length 0, .int .i64 d.kind, .int .i64 d.n, .string d.name, .int .i64 d.stamp, .int .i64 d.lib, .slice a d.kids.length cap] 28 (0, 0))) := (hb3.block _ (Array.getElem?_eq_some_iff.1 BL_2.out).1).trans BL_2.out
          have NO_3 : Hid (Nod W2.heap.size ⟨0, 0, ⟨#[]⟩, 0, 0, []⟩ (.slice none 0 0) W3 ∧ W0.heap.size ≤ W2.heap.size) := ⟨hN3, hnb3⟩
          clear hb3 hN3 hnb3
          refine hK.out _ _ hS3 (fun hS => ?_)
          clear hK K
          refine wpAnyH_ready (rs := [5]) (by kernel_rfl) (by simp) (AllReadyH.cons (o := { dst := some 29, op := Op.call { callee := Callee.value (Operand.func 19), args := #[Operand.tmp 28], argTypes := #[26] }, type := 28, pos := _, after := _, guard := none }) rfl (fun K hK => ?_) AllReadyH.nil)
          go_simp
          refine Calls.mono (List_any [numD n, d] (some ⟨W1.heap.size, 0, none⟩) 2 W3) ?_
          rintro e W4 ⟨rfl, hb4⟩
          have BL_4 : Hid (W4.heap[W1.heap.size]? = some (.cells #[.int .i64 (numD n).kind, .int .i64 (numD n).n, .string (numD n).name, .int .i64 (numD n).stamp, .int .i64 (numD n).lib, .slice none (numD n).kids.length 0, .int .i64 d.kind, .int .i64 d.n, .string d.name, .int .i64 d.stamp, .int .i64 d.lib, .slice a d.kids.length cap] 28 (0, 0))) := (hb4.block _ (Array.getElem?_eq_some_iff.1 BL_3.out).1).trans BL_3.out
          have NO_4 : Hid (Nod W2.heap.size ⟨0, 0, ⟨#[]⟩, 0, 0, []⟩ (.slice none 0 0) W4 ∧ W0.heap.size ≤ W2.heap.size) := ⟨NO_3.out.1.after hb4, NO_3.out.2⟩
          have hS4 := hS.trans (hb4.mono hS.size)
          clear hb4
          try unfold dv
          show K _ W4
          refine hK.out _ _ hS4 (fun hS => ?_)
          clear hK K
          refine wpAnyH_ready (rs := [6]) (by kernel_rfl) (by simp) (AllReadyH.cons (o := { dst := some 30, op := Op.call { callee := Callee.value (Operand.func 11), args := #[Operand.tmp 24, Operand.tmp 29, Operand.const (Value.int IntKind.i64 1), Operand.const (Value.int IntKind.i64 1)], argTypes := #[25, 28, 3, 3] }, type := 32, pos := _, after := _, guard := none }) rfl (fun K hK => ?_) AllReadyH.nil)
          go_simp
          have US5 := Use_here g _ [] selfR none (some ⟨rb1, 0, none⟩) 0 1 (listD [numD n, d]) (some ⟨W1.heap.size, 0, none⟩) 2 1 1 W4 (Strs.none _ _ _) (RL.out.lift hS) (Dn.row (F := fd) [((numD n), none, 0), (d, a, cap)] BL_4.out (by simp) (by intro e he; simp at he; rcases he with rfl | rfl <;> first | exact ⟨Nat.zero_le _, Nat.zero_le _, Dn.nil _ _ _⟩ | exact ⟨hnm, hcap, DD.out.lift hS⟩)) (by show 2 ≤ 2; omega) smSelf (smD_list (by intro x hx; simp at hx; rcases hx with rfl | rfl <;> first | exact smD_num _ | exact hsm))
          rw [U1.out] at US5
          refine Calls.mono US5 ?_
          clear US5
          rintro e W5 ⟨hb5, ra5, rc5, rf5, rfl, hc5, hd5⟩
          have hx5 := NO_4.out.1.lt
          have BL_5 : Hid (W5.heap[W1.heap.size]? = some (.cells #[.int .i64 (numD n).kind, .int .i64 (numD n).n, .string (numD n).name, .int .i64 (numD n).stamp, .int .i64 (numD n).lib, .slice none (numD n).kids.length 0, .int .i64 d.kind, .int .i64 d.n, .string d.name, .int .i64 d.stamp, .int .i64 d.lib, .slice a d.kids.length cap] 28 (0, 0))) := (hb5.block _ (Array.getElem?_eq_some_iff.1 BL_4.out).1).trans BL_4.out
          have NO_5 : Hid (Nod W2.heap.size ⟨0, 0, ⟨#[]⟩, 0, 0, []⟩ (.slice none 0 0) W5 ∧ W0.heap.size ≤ W2.heap.size) := ⟨NO_4.out.1.after hb5, NO_4.out.2⟩
          have RE_5 : Hid (r1.kids.length ≤ rc5 ∧ DnX W5 (W2.heap.size) rf5 ra5 r1.kids) := ⟨hc5, DnX.of hd5 hx5⟩
          have hS5 := hS.trans (hb5.mono hS.size)
          clear hb5 hc5 hd5
          clear hx5
          unfold dv
          show K _ W5
          refine hK.out _ _ hS5 (fun hS => ?_)
          clear hK K
          refine wpAnyH_take (i := 7) (oi := { dst := some 23, op := Op.move (Operand.tmp 30), type := 32, pos := _, after := _, guard := none }) (v := .tuple #[.agg #[.int .i64 r1.kind, .int .i64 r1.n, .string r1.name, .int .i64 r1.stamp, .int .i64 r1.lib, .slice ra5 r1.kids.length rc5], .int .i64 y1]) rfl (by kernel_rfl) (by kernel_rfl) (by kernel_rfl) (fun _ _ _ h => h) (Or.inl ⟨by rfl, fun u hu => by go_simp⟩) hS ?_
          simp only [Act.put, List.setIfInBounds_toArray, List.set_cons_zero, List.set_cons_succ]
          refine wpAnyH_take (i := 8) (oi := { dst := some 31, op := Op.extract (Operand.tmp 23) 0, type := 28, pos := _, after := _, guard := none }) (v := .agg #[.int .i64 r1.kind, .int .i64 r1.n, .string r1.name, .int .i64 r1.stamp, .int .i64 r1.lib, .slice ra5 r1.kids.length rc5]) rfl (by kernel_rfl) (by kernel_rfl) (by kernel_rfl) (fun _ _ _ h => h) (Or.inl ⟨by rfl, fun u hu => by go_simp⟩) hS ?_
          simp only [Act.put, List.setIfInBounds_toArray, List.set_cons_zero, List.set_cons_succ]
          refine wpAnyH_take (i := 9) (oi := { dst := some 32, op := Op.extract (Operand.tmp 23) 1, type := 31, pos := _, after := _, guard := none }) (v := .int .i64 y1) rfl (by kernel_rfl) (by kernel_rfl) (by kernel_rfl) (fun _ _ _ h => h) (Or.inl ⟨by rfl, fun u hu => by go_simp⟩) hS ?_
          simp only [Act.put, List.setIfInBounds_toArray, List.set_cons_zero, List.set_cons_succ]
          refine wpAnyH_ready (rs := [11]) (by kernel_rfl) (by simp) (AllReadyH.cons (o := { dst := none, op := Op.store 28 (Operand.tmp 7) (Operand.tmp 31), type := 0, pos := _, after := _, guard := none }) rfl (fun K hK => ?_) AllReadyH.nil)
          obtain ⟨q, q0, q1, q2, q3, q4, q5, qz⟩ := NO_5.out.1
          simp only at q0 q1 q2 q3 q4 q5
          go_simp
          refine hK.out _ _ (below_sixN hS NO_5.out.2 _ _ _ _ _ _) (fun hS => ?_)
          clear hK K
          refine wpAnyH_take (i := 12) (oi := { dst := some 8, op := Op.assign (Operand.tmp 32), type := 31, pos := _, after := _, guard := none }) (v := .int .i64 y1) rfl (by kernel_rfl) (by kernel_rfl) (by kernel_rfl) (fun _ _ _ h => h) (Or.inl ⟨by rfl, fun u hu => by go_simp⟩) hS ?_
          simp only [Act.put, List.setIfInBounds_toArray, List.set_cons_zero, List.set_cons_succ]
          refine wpAnyH_done (by kernel_rfl) ?_ _
          clear q q0 q1 q2 q3 q4 q5 qz
          go_wp2_with fail
          go_meet
          case rel =>
            exact ⟨_, _, _, _, rfl, rfl, NO_5.out.1.store r1 (.slice ra5 r1.kids.length rc5), RE_5.out.1, RE_5.out.2.store _ _ _ _ _ _, hS⟩
      · go_simp
        have hb2 : Below W1.heap.size W1 (W1.alloc (.cells #[.int .i64 0, .int .i64 0, .string ⟨#[]⟩, .int .i64 0, .int .i64 0, .slice none 0 0] 28)) := (Below.refl _ _).alloc (Nat.le_refl _) _
        have hN2 : Nod W1.heap.size ⟨0, 0, ⟨#[]⟩, 0, 0, []⟩ (.slice none 0 0) (W1.alloc (.cells #[.int .i64 0, .int .i64 0, .string ⟨#[]⟩, .int .i64 0, .int .i64 0, .slice none 0 0] 28)) := Nod.made W1 ⟨0, 0, ⟨#[]⟩, 0, 0, []⟩ (.slice none 0 0)
        have hnb2 : W0.heap.size ≤ W1.heap.size := hS.size
        have hS2 := hS.trans (hb2.mono hS.size)
        change K _ (W1.alloc (.cells #[.int .i64 0, .int .i64 0, .string ⟨#[]⟩, .int .i64 0, .int .i64 0, .slice none 0 0] 28))
        generalize W1.alloc (.cells #[.int .i64 0, .int .i64 0, .string ⟨#[]⟩, .int .i64 0, .int .i64 0, .slice none 0 0] 28) = W2 at hb2 hN2 hS2 ⊢
        have NO_2 : Hid (Nod W1.heap.size ⟨0, 0, ⟨#[]⟩, 0, 0, []⟩ (.slice none 0 0) W2 ∧ W0.heap.size ≤ W1.heap.size) := ⟨hN2, hnb2⟩
        clear hb2 hN2 hnb2
        refine hK.out _ _ hS2 (fun hS => ?_)
        clear hK K
        refine wpAnyH_ready (rs := [4]) (by kernel_rfl) (by simp) (AllReadyH.cons (o := { dst := some 28, op := Op.buildSlice 26 2 #[(0, Operand.tmp 26), (1, Operand.tmp 27)], type := 26, pos := _, after := _, guard := none }) rfl (fun K hK => ?_) AllReadyH.nil)
        go_simp
        have hb3 : Below W2.heap.size W2 (W2.alloc (.cells #[.int .i64 (numD n).kind, .int .i64 (numD n).n, .string (numD n).name, .int .i64 (numD n).stamp, .int .i64 (numD n).lib, .slice none (numD n).kids.length 0, .int .i64 d.kind, .int .i64 d.n, .string d.name, .int .i64 d.stamp, .int .i64 d.lib, .slice a d.kids.length cap] 28)) := (Below.refl _ _).alloc (Nat.le_refl _) _
        have hN3 : (W2.alloc (.cells #[.int .i64 (numD n).kind, .int .i64 (numD n).n, .string (numD n).name, .int .i64 (numD n).stamp, .int .i64 (numD n).lib, .slice none (numD n).kids.length 0, .int .i64 d.kind, .int .i64 d.n, .string d.name, .int .i64 d.stamp, .int .i64 d.lib, .slice a d.kids.length cap] 28)).heap[W2.heap.size]? = some (.cells #[.int .i64 (numD n).kind, .int .i64 (numD n).n, .string (numD n).name, .int .i64 (numD n).stamp, .int .i64 (numD n).lib, .slice none (numD n).kids.length 0, .int .i64 d.kind, .int .i64 d.n, .string d.name, .int .i64 d.stamp, .int .i64 d.lib, .slice a d.kids.length cap] 28 (0, 0)) := World.alloc_heap_new W2 _
        have hS3 := hS.trans (hb3.mono hS.size)
        change K _ (W2.alloc (.cells #[.int .i64 (numD n).kind, .int .i64 (numD n).n, .string (numD n).name, .int .i64 (numD n).stamp, .int .i64 (numD n).lib, .slice none (numD n).kids.length 0, .int .i64 d.kind, .int .i64 d.n, .string d.name, .int .i64 d.stamp, .int .i64 d.lib, .slice a d.kids.length cap] 28))
        generalize W2.alloc (.cells #[.int .i64 (numD n).kind, .int .i64 (numD n).n, .string (numD n).name, .int .i64 (numD n).stamp, .int .i64 (numD n).lib, .slice none (numD n).kids.length 0, .int .i64 d.kind, .int .i64 d.n, .string d.name, .int .i64 d.stamp, .int .i64 d.lib, .slice a d.kids.length cap] 28) = W3 at hb3 hN3 hS3 ⊢
        have NO_3 : Hid (Nod W1.heap.size ⟨0, 0, ⟨#[]⟩, 0, 0, []⟩ (.slice none 0 0) W3 ∧ W0.heap.size ≤ W1.heap.size) := ⟨NO_2.out.1.after hb3, NO_2.out.2⟩
        have BL_3 : Hid (W3.heap[W2.heap.size]? = some (.cells #[.int .i64 (numD n).kind, .int .i64 (numD n).n, .string (numD n).name, .int .i64 (numD n).stamp, .int .i64 (numD n).lib, .slice none (numD n).kids.length 0, .int .i64 d.kind, .int .i64 d.n, .string d.name, .int .i64 d.stamp, .int .i64 d.lib, .slice a d.kids.length cap] 28 (0, 0))) := hN3
        clear hb3 hN3
        refine hK.out _ _ hS3 (fun hS => ?_)
        clear hK K
        refine wpAnyH_ready (rs := [5]) (by kernel_rfl) (by simp) (AllReadyH.cons (o := { dst := some 29, op := Op.call { callee := Callee.value (Operand.func 19), args := #[Operand.tmp 28], argTypes := #[26] }, type := 28, pos := _, after := _, guard := none }) rfl (fun K hK => ?_) AllReadyH.nil)
        go_simp
        refine Calls.mono (List_any [numD n, d] (some ⟨W2.heap.size, 0, none⟩) 2 W3) ?_
        rintro e W4 ⟨rfl, hb4⟩
        have NO_4 : Hid (Nod W1.heap.size ⟨0, 0, ⟨#[]⟩, 0, 0, []⟩ (.slice none 0 0) W4 ∧ W0.heap.size ≤ W1.heap.size) := ⟨NO_3.out.1.after hb4, NO_3.out.2⟩
        have BL_4 : Hid (W4.heap[W2.heap.size]? = some (.cells #[.int .i64 (numD n).kind, .int .i64 (numD n).n, .string (numD n).name, .int .i64 (numD n).stamp, .int .i64 (numD n).lib, .slice none (numD n).kids.length 0, .int .i64 d.kind, .int .i64 d.n, .string d.name, .int .i64 d.stamp, .int .i64 d.lib, .slice a d.kids.length cap] 28 (0, 0))) := (hb4.block _ (Array.getElem?_eq_some_iff.1 BL_3.out).1).trans BL_3.out
        have hS4 := hS.trans (hb4.mono hS.size)
        clear hb4
        try unfold dv
        show K _ W4
        refine hK.out _ _ hS4 (fun hS => ?_)
        clear hK K
        refine wpAnyH_ready (rs := [6]) (by kernel_rfl) (by simp) (AllReadyH.cons (o := { dst := some 30, op := Op.call { callee := Callee.value (Operand.func 11), args := #[Operand.tmp 24, Operand.tmp 29, Operand.const (Value.int IntKind.i64 1), Operand.const (Value.int IntKind.i64 1)], argTypes := #[25, 28, 3, 3] }, type := 32, pos := _, after := _, guard := none }) rfl (fun K hK => ?_) AllReadyH.nil)
        go_simp
        have US5 := Use_here g _ [] selfR none (some ⟨rb1, 0, none⟩) 0 1 (listD [numD n, d]) (some ⟨W2.heap.size, 0, none⟩) 2 1 1 W4 (Strs.none _ _ _) (RL.out.lift hS) (Dn.row (F := fd) [((numD n), none, 0), (d, a, cap)] BL_4.out (by simp) (by intro e he; simp at he; rcases he with rfl | rfl <;> first | exact ⟨Nat.zero_le _, Nat.zero_le _, Dn.nil _ _ _⟩ | exact ⟨hnm, hcap, DD.out.lift hS⟩)) (by show 2 ≤ 2; omega) smSelf (smD_list (by intro x hx; simp at hx; rcases hx with rfl | rfl <;> first | exact smD_num _ | exact hsm))
        rw [U1.out] at US5
        refine Calls.mono US5 ?_
        clear US5
        rintro e W5 ⟨hb5, ra5, rc5, rf5, rfl, hc5, hd5⟩
        have hx5 := NO_4.out.1.lt
        have NO_5 : Hid (Nod W1.heap.size ⟨0, 0, ⟨#[]⟩, 0, 0, []⟩ (.slice none 0 0) W5 ∧ W0.heap.size ≤ W1.heap.size) := ⟨NO_4.out.1.after hb5, NO_4.out.2⟩
        have BL_5 : Hid (W5.heap[W2.heap.size]? = some (.cells #[.int .i64 (numD n).kind, .int .i64 (numD n).n, .string (numD n).name, .int .i64 (numD n).stamp, .int .i64 (numD n).lib, .slice none (numD n).kids.length 0, .int .i64 d.kind, .int .i64 d.n, .string d.name, .int .i64 d.stamp, .int .i64 d.lib, .slice a d.kids.length cap] 28 (0, 0))) := (hb5.block _ (Array.getElem?_eq_some_iff.1 BL_4.out).1).trans BL_4.out
        have RE_5 : Hid (r1.kids.length ≤ rc5 ∧ DnX W5 (W1.heap.size) rf5 ra5 r1.kids) := ⟨hc5, DnX.of hd5 hx5⟩
        have hS5 := hS.trans (hb5.mono hS.size)
        clear hb5 hc5 hd5
        clear hx5
        unfold dv
        show K _ W5
        refine hK.out _ _ hS5 (fun hS => ?_)
        clear hK K
        refine wpAnyH_take (i := 7) (oi := { dst := some 23, op := Op.move (Operand.tmp 30), type := 32, pos := _, after := _, guard := none }) (v := .tuple #[.agg #[.int .i64 r1.kind, .int .i64 r1.n, .string r1.name, .int .i64 r1.stamp, .int .i64 r1.lib, .slice ra5 r1.kids.length rc5], .int .i64 y1]) rfl (by kernel_rfl) (by kernel_rfl) (by kernel_rfl) (fun _ _ _ h => h) (Or.inl ⟨by rfl, fun u hu => by go_simp⟩) hS ?_
        simp only [Act.put, List.setIfInBounds_toArray, List.set_cons_zero, List.set_cons_succ]
        refine wpAnyH_take (i := 8) (oi := { dst := some 31, op := Op.extract (Operand.tmp 23) 0, type := 28, pos := _, after := _, guard := none }) (v := .agg #[.int .i64 r1.kind, .int .i64 r1.n, .string r1.name, .int .i64 r1.stamp, .int .i64 r1.lib, .slice ra5 r1.kids.length rc5]) rfl (by kernel_rfl) (by kernel_rfl) (by kernel_rfl) (fun _ _ _ h => h) (Or.inl ⟨by rfl, fun u hu => by go_simp⟩) hS ?_
        simp only [Act.put, List.setIfInBounds_toArray, List.set_cons_zero, List.set_cons_succ]
        refine wpAnyH_take (i := 9) (oi := { dst := some 32, op := Op.extract (Operand.tmp 23) 1, type := 31, pos := _, after := _, guard := none }) (v := .int .i64 y1) rfl (by kernel_rfl) (by kernel_rfl) (by kernel_rfl) (fun _ _ _ h => h) (Or.inl ⟨by rfl, fun u hu => by go_simp⟩) hS ?_
        simp only [Act.put, List.setIfInBounds_toArray, List.set_cons_zero, List.set_cons_succ]
        refine wpAnyH_ready (rs := [11]) (by kernel_rfl) (by simp) (AllReadyH.cons (o := { dst := none, op := Op.store 28 (Operand.tmp 7) (Operand.tmp 31), type := 0, pos := _, after := _, guard := none }) rfl (fun K hK => ?_) AllReadyH.nil)
        obtain ⟨q, q0, q1, q2, q3, q4, q5, qz⟩ := NO_5.out.1
        simp only at q0 q1 q2 q3 q4 q5
        go_simp
        refine hK.out _ _ (below_sixN hS NO_5.out.2 _ _ _ _ _ _) (fun hS => ?_)
        clear hK K
        refine wpAnyH_take (i := 12) (oi := { dst := some 8, op := Op.assign (Operand.tmp 32), type := 31, pos := _, after := _, guard := none }) (v := .int .i64 y1) rfl (by kernel_rfl) (by kernel_rfl) (by kernel_rfl) (fun _ _ _ h => h) (Or.inl ⟨by rfl, fun u hu => by go_simp⟩) hS ?_
        simp only [Act.put, List.setIfInBounds_toArray, List.set_cons_zero, List.set_cons_succ]
        refine wpAnyH_done (by kernel_rfl) ?_ _
        clear q q0 q1 q2 q3 q4 q5 qz
        go_wp2_with fail
        go_meet
        case rel =>
          exact ⟨_, _, _, _, rfl, rfl, NO_5.out.1.store r1 (.slice ra5 r1.kids.length rc5), RE_5.out.1, RE_5.out.2.store _ _ _ _ _ _, hS⟩
    · go_simp
      have hb1 : Below W0.drew.heap.size W0.drew (W0.drew.alloc (.cells #[.int .i64 0, .int .i64 0, .string ⟨#[]⟩, .int .i64 0, .int .i64 0, .slice none 0 0] 28)) := (Below.refl _ _).alloc (Nat.le_refl _) _
      have hN1 : Nod W0.heap.size ⟨0, 0, ⟨#[]⟩, 0, 0, []⟩ (.slice none 0 0) (W0.drew.alloc (.cells #[.int .i64 0, .int .i64 0, .string ⟨#[]⟩, .int .i64 0, .int .i64 0, .slice none 0 0] 28)) := Nod.made W0.drew ⟨0, 0, ⟨#[]⟩, 0, 0, []⟩ (.slice none 0 0)
      have hnb1 : W0.heap.size ≤ W0.heap.size := hS.size
      have hS1 := hS.trans (hb1.mono hS.size)
      change K _ (W0.drew.alloc (.cells #[.int .i64 0, .int .i64 0, .string ⟨#[]⟩, .int .i64 0, .int .i64 0, .slice none 0 0] 28))
      generalize W0.drew.alloc (.cells #[.int .i64 0, .int .i64 0, .string ⟨#[]⟩, .int .i64 0, .int .i64 0, .slice none 0 0] 28) = W1 at hb1 hN1 hS1 ⊢
      have NO_1 : Hid (Nod W0.heap.size ⟨0, 0, ⟨#[]⟩, 0, 0, []⟩ (.slice none 0 0) W1 ∧ W0.heap.size ≤ W0.heap.size) := ⟨hN1, hnb1⟩
      clear hb1 hN1 hnb1
      refine hK.out _ _ hS1 (fun hS => ?_)
      clear hK K
      refine wpAnyH_ready (rs := [2]) (by kernel_rfl) (by simp) (AllReadyH.cons (o := { dst := some 26, op := Op.call { callee := Callee.value (Operand.func 20), args := #[Operand.tmp 25], argTypes := #[2] }, type := 28, pos := _, after := _, guard := none }) rfl (fun K hK => ?_) AllReadyH.nil)
      go_simp
      refine Calls.mono (Num_any n W1) ?_
      rintro e W2 ⟨rfl, hb2⟩
      have NO_2 : Hid (Nod W0.heap.size ⟨0, 0, ⟨#[]⟩, 0, 0, []⟩ (.slice none 0 0) W2 ∧ W0.heap.size ≤ W0.heap.size) := ⟨NO_1.out.1.after hb2, NO_1.out.2⟩
      have hS2 := hS.trans (hb2.mono hS.size)
      clear hb2
      try unfold dv
      show K _ W2
      refine hK.out _ _ hS2 (fun hS => ?_)
      clear hK K
      refine wpAnyH_ready (rs := [4]) (by kernel_rfl) (by simp) (AllReadyH.cons (o := { dst := some 28, op := Op.buildSlice 26 2 #[(0, Operand.tmp 26), (1, Operand.tmp 27)], type := 26, pos := _, after := _, guard := none }) rfl (fun K hK => ?_) AllReadyH.nil)
      go_simp
      have hb3 : Below W2.heap.size W2 (W2.alloc (.cells #[.int .i64 (numD n).kind, .int .i64 (numD n).n, .string (numD n).name, .int .i64 (numD n).stamp, .int .i64 (numD n).lib, .slice none (numD n).kids.length 0, .int .i64 d.kind, .int .i64 d.n, .string d.name, .int .i64 d.stamp, .int .i64 d.lib, .slice a d.kids.length cap] 28)) := (Below.refl _ _).alloc (Nat.le_refl _) _
      have hN3 : (W2.alloc (.cells #[.int .i64 (numD n).kind, .int .i64 (numD n).n, .string (numD n).name, .int .i64 (numD n).stamp, .int .i64 (numD n).lib, .slice none (numD n).kids.length 0, .int .i64 d.kind, .int .i64 d.n, .string d.name, .int .i64 d.stamp, .int .i64 d.lib, .slice a d.kids.length cap] 28)).heap[W2.heap.size]? = some (.cells #[.int .i64 (numD n).kind, .int .i64 (numD n).n, .string (numD n).name, .int .i64 (numD n).stamp, .int .i64 (numD n).lib, .slice none (numD n).kids.length 0, .int .i64 d.kind, .int .i64 d.n, .string d.name, .int .i64 d.stamp, .int .i64 d.lib, .slice a d.kids.length cap] 28 (0, 0)) := World.alloc_heap_new W2 _
      have hS3 := hS.trans (hb3.mono hS.size)
      change K _ (W2.alloc (.cells #[.int .i64 (numD n).kind, .int .i64 (numD n).n, .string (numD n).name, .int .i64 (numD n).stamp, .int .i64 (numD n).lib, .slice none (numD n).kids.length 0, .int .i64 d.kind, .int .i64 d.n, .string d.name, .int .i64 d.stamp, .int .i64 d.lib, .slice a d.kids.length cap] 28))
      generalize W2.alloc (.cells #[.int .i64 (numD n).kind, .int .i64 (numD n).n, .string (numD n).name, .int .i64 (numD n).stamp, .int .i64 (numD n).lib, .slice none (numD n).kids.length 0, .int .i64 d.kind, .int .i64 d.n, .string d.name, .int .i64 d.stamp, .int .i64 d.lib, .slice a d.kids.length cap] 28) = W3 at hb3 hN3 hS3 ⊢
      have NO_3 : Hid (Nod W0.heap.size ⟨0, 0, ⟨#[]⟩, 0, 0, []⟩ (.slice none 0 0) W3 ∧ W0.heap.size ≤ W0.heap.size) := ⟨NO_2.out.1.after hb3, NO_2.out.2⟩
      have BL_3 : Hid (W3.heap[W2.heap.size]? = some (.cells #[.int .i64 (numD n).kind, .int .i64 (numD n).n, .string (numD n).name, .int .i64 (numD n).stamp, .int .i64 (numD n).lib, .slice none (numD n).kids.length 0, .int .i64 d.kind, .int .i64 d.n, .string d.name, .int .i64 d.stamp, .int .i64 d.lib, .slice a d.kids.length cap] 28 (0, 0))) := hN3
      clear hb3 hN3
      refine hK.out _ _ hS3 (fun hS => ?_)
      clear hK K
      refine wpAnyH_ready (rs := [5]) (by kernel_rfl) (by simp) (AllReadyH.cons (o := { dst := some 29, op := Op.call { callee := Callee.value (Operand.func 19), args := #[Operand.tmp 28], argTypes := #[26] }, type := 28, pos := _, after := _, guard := none }) rfl (fun K hK => ?_) AllReadyH.nil)
      go_simp
      refine Calls.mono (List_any [numD n, d] (some ⟨W2.heap.size, 0, none⟩) 2 W3) ?_
      rintro e W4 ⟨rfl, hb4⟩
      have NO_4 : Hid (Nod W0.heap.size ⟨0, 0, ⟨#[]⟩, 0, 0, []⟩ (.slice none 0 0) W4 ∧ W0.heap.size ≤ W0.heap.size) := ⟨NO_3.out.1.after hb4, NO_3.out.2⟩
      have BL_4 : Hid (W4.heap[W2.heap.size]? = some (.cells #[.int .i64 (numD n).kind, .int .i64 (numD n).n, .string (numD n).name, .int .i64 (numD n).stamp, .int .i64 (numD n).lib, .slice none (numD n).kids.length 0, .int .i64 d.kind, .int .i64 d.n, .string d.name, .int .i64 d.stamp, .int .i64 d.lib, .slice a d.kids.length cap] 28 (0, 0))) := (hb4.block _ (Array.getElem?_eq_some_iff.1 BL_3.out).1).trans BL_3.out
      have hS4 := hS.trans (hb4.mono hS.size)
      clear hb4
      try unfold dv
      show K _ W4
      refine hK.out _ _ hS4 (fun hS => ?_)
      clear hK K
      refine wpAnyH_ready (rs := [6]) (by kernel_rfl) (by simp) (AllReadyH.cons (o := { dst := some 30, op := Op.call { callee := Callee.value (Operand.func 11), args := #[Operand.tmp 24, Operand.tmp 29, Operand.const (Value.int IntKind.i64 1), Operand.const (Value.int IntKind.i64 1)], argTypes := #[25, 28, 3, 3] }, type := 32, pos := _, after := _, guard := none }) rfl (fun K hK => ?_) AllReadyH.nil)
      go_simp
      have US5 := Use_here g _ [] selfR none (some ⟨rb1, 0, none⟩) 0 1 (listD [numD n, d]) (some ⟨W2.heap.size, 0, none⟩) 2 1 1 W4 (Strs.none _ _ _) (RL.out.lift hS) (Dn.row (F := fd) [((numD n), none, 0), (d, a, cap)] BL_4.out (by simp) (by intro e he; simp at he; rcases he with rfl | rfl <;> first | exact ⟨Nat.zero_le _, Nat.zero_le _, Dn.nil _ _ _⟩ | exact ⟨hnm, hcap, DD.out.lift hS⟩)) (by show 2 ≤ 2; omega) smSelf (smD_list (by intro x hx; simp at hx; rcases hx with rfl | rfl <;> first | exact smD_num _ | exact hsm))
      rw [U1.out] at US5
      refine Calls.mono US5 ?_
      clear US5
      rintro e W5 ⟨hb5, ra5, rc5, rf5, rfl, hc5, hd5⟩
      have hx5 := NO_4.out.1.lt
      have NO_5 : Hid (Nod W0.heap.size ⟨0, 0, ⟨#[]⟩, 0, 0, []⟩ (.slice none 0 0) W5 ∧ W0.heap.size ≤ W0.heap.size) := ⟨NO_4.out.1.after hb5, NO_4.out.2⟩
      have BL_5 : Hid (W5.heap[W2.heap.size]? = some (.cells #[.int .i64 (numD n).kind, .int .i64 (numD n).n, .string (numD n).name, .int .i64 (numD n).stamp, .int .i64 (numD n).lib, .slice none (numD n).kids.length 0, .int .i64 d.kind, .int .i64 d.n, .string d.name, .int .i64 d.stamp, .int .i64 d.lib, .slice a d.kids.length cap] 28 (0, 0))) := (hb5.block _ (Array.getElem?_eq_some_iff.1 BL_4.out).1).trans BL_4.out
      have RE_5 : Hid (r1.kids.length ≤ rc5 ∧ DnX W5 (W0.heap.size) rf5 ra5 r1.kids) := ⟨hc5, DnX.of hd5 hx5⟩
      have hS5 := hS.trans (hb5.mono hS.size)
      clear hb5 hc5 hd5
      clear hx5
      unfold dv
      show K _ W5
      refine hK.out _ _ hS5 (fun hS => ?_)
      clear hK K
      refine wpAnyH_take (i := 7) (oi := { dst := some 23, op := Op.move (Operand.tmp 30), type := 32, pos := _, after := _, guard := none }) (v := .tuple #[.agg #[.int .i64 r1.kind, .int .i64 r1.n, .string r1.name, .int .i64 r1.stamp, .int .i64 r1.lib, .slice ra5 r1.kids.length rc5], .int .i64 y1]) rfl (by kernel_rfl) (by kernel_rfl) (by kernel_rfl) (fun _ _ _ h => h) (Or.inl ⟨by rfl, fun u hu => by go_simp⟩) hS ?_
      simp only [Act.put, List.setIfInBounds_toArray, List.set_cons_zero, List.set_cons_succ]
      refine wpAnyH_take (i := 8) (oi := { dst := some 31, op := Op.extract (Operand.tmp 23) 0, type := 28, pos := _, after := _, guard := none }) (v := .agg #[.int .i64 r1.kind, .int .i64 r1.n, .string r1.name, .int .i64 r1.stamp, .int .i64 r1.lib, .slice ra5 r1.kids.length rc5]) rfl (by kernel_rfl) (by kernel_rfl) (by kernel_rfl) (fun _ _ _ h => h) (Or.inl ⟨by rfl, fun u hu => by go_simp⟩) hS ?_
      simp only [Act.put, List.setIfInBounds_toArray, List.set_cons_zero, List.set_cons_succ]
      refine wpAnyH_take (i := 9) (oi := { dst := some 32, op := Op.extract (Operand.tmp 23) 1, type := 31, pos := _, after := _, guard := none }) (v := .int .i64 y1) rfl (by kernel_rfl) (by kernel_rfl) (by kernel_rfl) (fun _ _ _ h => h) (Or.inl ⟨by rfl, fun u hu => by go_simp⟩) hS ?_
      simp only [Act.put, List.setIfInBounds_toArray, List.set_cons_zero, List.set_cons_succ]
      refine wpAnyH_ready (rs := [11]) (by kernel_rfl) (by simp) (AllReadyH.cons (o := { dst := none, op := Op.store 28 (Operand.tmp 7) (Operand.tmp 31), type := 0, pos := _, after := _, guard := none }) rfl (fun K hK => ?_) AllReadyH.nil)
      obtain ⟨q, q0, q1, q2, q3, q4, q5, qz⟩ := NO_5.out.1
      simp only at q0 q1 q2 q3 q4 q5
      go_simp
      refine hK.out _ _ (below_sixN hS NO_5.out.2 _ _ _ _ _ _) (fun hS => ?_)
      clear hK K
      refine wpAnyH_take (i := 12) (oi := { dst := some 8, op := Op.assign (Operand.tmp 32), type := 31, pos := _, after := _, guard := none }) (v := .int .i64 y1) rfl (by kernel_rfl) (by kernel_rfl) (by kernel_rfl) (fun _ _ _ h => h) (Or.inl ⟨by rfl, fun u hu => by go_simp⟩) hS ?_
      simp only [Act.put, List.setIfInBounds_toArray, List.set_cons_zero, List.set_cons_succ]
      refine wpAnyH_done (by kernel_rfl) ?_ _
      clear q q0 q1 q2 q3 q4 q5 qz
      go_wp2_with fail
      go_meet
      case rel =>
        exact ⟨_, _, _, _, rfl, rfl, NO_5.out.1.store r1 (.slice ra5 r1.kids.length rc5), RE_5.out.1, RE_5.out.2.store _ _ _ _ _ _, hS⟩
  case rest =>
    obtain ⟨N1, a1, c1, f1, rfl, rfl, n1, hc1, hd1, hb1⟩ := hcut
    have G1 : Hid ((wc.heap[w.heap.size]? = some (.cells #[.int .i64 d.kind, .int .i64 d.n, .string d.name, .int .i64 d.stamp, .int .i64 d.lib, .slice a d.kids.length cap] 28 (0, 0))) ∧ Below w.heap.size w wc ∧ Dn wc fd a d.kids ∧ (∃ g, Rn wc g (some ⟨rb2, 0, none⟩) eachR) ∧ wc.heap[mb2]? = some (.cells #[.slice none 0 0, .slice (some ⟨rb2, 0, none⟩) 1 1] 25 (0, 0)) ∧ Nod N1 r1 (.slice a1 r1.kids.length c1) wc ∧ Dn wc f1 a1 r1.kids) := ⟨(hb1.block _ (Array.getElem?_eq_some_iff.1 F6.out.1).1).trans F6.out.1, F6.out.2.1.trans (hb1.mono F6.out.2.1.size), F6.out.2.2.1.lift hb1, ⟨_, F6.out.2.2.2.2.2.1.choose_spec.lift hb1⟩, (hb1.block _ (Array.getElem?_eq_some_iff.1 F6.out.2.2.2.2.2.2).1).trans F6.out.2.2.2.2.2.2, n1, hd1⟩
    clear n1 hc1 hd1 hb1 F6
    go_upto_region 6 with fail
    go_cut [9, 10] from 33 to 43 (fun s7 s8 wx => ∃ N a c f, s7 = .pointer (some ⟨N, 0, none⟩) ∧ s8 = .int .i64 y2 ∧ Nod N r2 (.slice a r2.kids.length c) wx ∧ r2.kids.length ≤ c ∧ Dn wx f a r2.kids ∧ Below wc.heap.size wc wx)
    case first =>
      have e0 : wc.cell? ⟨w.heap.size, 0, none⟩ = some (.int .i64 d.kind) := by simp [World.cell?, G1.out.1]
      have e1 : wc.cell? ⟨w.heap.size, 1, none⟩ = some (.int .i64 d.n) := by simp [World.cell?, G1.out.1]
      have e2 : wc.cell? ⟨w.heap.size, 2, none⟩ = some (.string d.name) := by simp [World.cell?, G1.out.1]
      have e3 : wc.cell? ⟨w.heap.size, 3, none⟩ = some (.int .i64 d.stamp) := by simp [World.cell?, G1.out.1]
      have e4 : wc.cell? ⟨w.heap.size, 4, none⟩ = some (.int .i64 d.lib) := by simp [World.cell?, G1.out.1]
      have e5 : wc.cell? ⟨w.heap.size, 5, none⟩ = some (.slice a d.kids.length cap) := by simp [World.cell?, G1.out.1]
      have hbd : w.heap.size < wc.heap.size := (Array.getElem?_eq_some_iff.1 G1.out.1).1
      have hmb : mb2 < wc.heap.size := (Array.getElem?_eq_some_iff.1 G1.out.2.2.2.2.1).1
      have m0 : wc.cell? ⟨mb2, 0, none⟩ = some (.slice none 0 0) := by simp [World.cell?, G1.out.2.2.2.2.1]
      have m1 : wc.cell? ⟨mb2, 1, none⟩ = some (.slice (some ⟨rb2, 0, none⟩) 1 1) := by simp [World.cell?, G1.out.2.2.2.2.1]
      obtain ⟨g, hg⟩ := G1.out.2.2.2.1
      have RL : Hid (Rn wc g (some ⟨rb2, 0, none⟩) eachR) := hg
      have DD : Hid (Dn wc fd a d.kids) := G1.out.2.2.1
      clear hg
      refine wp_region_held_drew (S := fun u => Below wc.heap.size wc u) (by kernel_rfl) (Below.drew (Below.refl _ _)) (fun hS => ?_)
      refine wpAnyH_take (i := 0) (oi := { dst := some 34, op := Op.load 25 (Operand.tmp 6), type := 25, pos := _, after := _, guard := none }) (v := .agg #[.slice none 0 0, .slice (some ⟨rb2, 0, none⟩) 1 1]) rfl (by kernel_rfl) (by kernel_rfl) (by kernel_rfl) (fun _ _ _ h => h) (Or.inl ⟨by rfl, fun u hu => by (have z0 := (hu.cell (p := ⟨mb2, 0, none⟩) hmb).trans m0; have z1 := (hu.cell (p := ⟨mb2, 1, none⟩) hmb).trans m1; go_simp)⟩) hS ?_
      simp only [Act.put, List.setIfInBounds_toArray, List.set_cons_zero, List.set_cons_succ]
      refine wpAnyH_take (i := 1) (oi := { dst := some 35, op := Op.move (Operand.tmp 1), type := 2, pos := _, after := _, guard := none }) (v := .int .i64 n) rfl (by kernel_rfl) (by kernel_rfl) (by kernel_rfl) (fun _ _ _ h => h) (Or.inl ⟨by rfl, fun u hu => by go_simp⟩) hS ?_
      simp only [Act.put, List.setIfInBounds_toArray, List.set_cons_zero, List.set_cons_succ]
      refine wpAnyH_take (i := 3) (oi := { dst := some 37, op := Op.load 28 (Operand.tmp 2), type := 28, pos := _, after := _, guard := none }) (v := .agg #[.int .i64 d.kind, .int .i64 d.n, .string d.name, .int .i64 d.stamp, .int .i64 d.lib, .slice a d.kids.length cap]) rfl (by kernel_rfl) (by kernel_rfl) (by kernel_rfl) (fun _ _ _ h => h) (Or.inl ⟨by rfl, fun u hu => by (have z0 := (hu.cell (p := ⟨w.heap.size, 0, none⟩) hbd).trans e0; have z1 := (hu.cell (p := ⟨w.heap.size, 1, none⟩) hbd).trans e1; have z2 := (hu.cell (p := ⟨w.heap.size, 2, none⟩) hbd).trans e2; have z3 := (hu.cell (p := ⟨w.heap.size, 3, none⟩) hbd).trans e3; have z4 := (hu.cell (p := ⟨w.heap.size, 4, none⟩) hbd).trans e4; have z5 := (hu.cell (p := ⟨w.heap.size, 5, none⟩) hbd).trans e5; go_simp)⟩) hS ?_
      simp only [Act.put, List.setIfInBounds_toArray, List.set_cons_zero, List.set_cons_succ]
      refine wpAnyH_take (i := 4) (oi := { dst := some 38, op := Op.load 28 (Operand.tmp 2), type := 28, pos := _, after := _, guard := none }) (v := .agg #[.int .i64 d.kind, .int .i64 d.n, .string d.name, .int .i64 d.stamp, .int .i64 d.lib, .slice a d.kids.length cap]) rfl (by kernel_rfl) (by kernel_rfl) (by kernel_rfl) (fun _ _ _ h => h) (Or.inl ⟨by rfl, fun u hu => by (have z0 := (hu.cell (p := ⟨w.heap.size, 0, none⟩) hbd).trans e0; have z1 := (hu.cell (p := ⟨w.heap.size, 1, none⟩) hbd).trans e1; have z2 := (hu.cell (p := ⟨w.heap.size, 2, none⟩) hbd).trans e2; have z3 := (hu.cell (p := ⟨w.heap.size, 3, none⟩) hbd).trans e3; have z4 := (hu.cell (p := ⟨w.heap.size, 4, none⟩) hbd).trans e4; have z5 := (hu.cell (p := ⟨w.heap.size, 5, none⟩) hbd).trans e5; go_simp)⟩) hS ?_
      simp only [Act.put, List.setIfInBounds_toArray, List.set_cons_zero, List.set_cons_succ]
      refine wpAnyH_ready (rs := [2, 11]) (by kernel_rfl) (by simp) (AllReadyH.cons (o := { dst := some 36, op := Op.call { callee := Callee.value (Operand.func 20), args := #[Operand.tmp 35], argTypes := #[2] }, type := 28, pos := _, after := _, guard := none }) rfl (fun K hK => ?_) (AllReadyH.cons (o := { dst := some 9, op := Op.alloc 28, type := 0, pos := _, after := _, guard := none }) rfl (fun K hK => ?_) AllReadyH.nil))
      · go_simp
        refine Calls.mono (Num_any n wc.drew) ?_
        rintro e W1 ⟨rfl, hb1⟩
        have hS1 := hS.trans (hb1.mono hS.size)
        clear hb1
        try unfold dv
        show K _ W1
        refine hK.out _ _ hS1 (fun hS => ?_)
        clear hK K
        refine wpAnyH_ready (rs := [5, 11]) (by kernel_rfl) (by simp) (AllReadyH.cons (o := { dst := some 39, op := Op.buildSlice 26 3 #[(0, Operand.tmp 36), (1, Operand.tmp 37), (2, Operand.tmp 38)], type := 26, pos := _, after := _, guard := none }) rfl (fun K hK => ?_) (AllReadyH.cons (o := { dst := some 9, op := Op.alloc 28, type := 0, pos := _, after := _, guard := none }) rfl (fun K hK => ?_) AllReadyH.nil))
        · go_simp
          have hb2 : Below W1.heap.size W1 (W1.alloc (.cells #[.int .i64 (numD n).kind, .int .i64 (numD n).n, .string (numD n).name, .int .i64 (numD n).stamp, .int .i64 (numD n).lib, .slice none (numD n).kids.length 0, .int .i64 d.kind, .int .i64 d.n, .string d.name, .int .i64 d.stamp, .int .i64 d.lib, .slice a d.kids.length cap, .int .i64 d.kind, .int .i64 d.n, .string d.name, .int .i64 d.stamp, .int .i64 d.lib, .slice a d.kids.length cap] 28)) := (Below.refl _ _).alloc (Nat.le_refl _) _
          have hN2 : (W1.alloc (.cells #[.int .i64 (numD n).kind, .int .i64 (numD n).n, .string (numD n).name, .int .i64 (numD n).stamp, .int .i64 (numD n).lib, .slice none (numD n).kids.length 0, .int .i64 d.kind, .int .i64 d.n, .string d.name, .int .i64 d.stamp, .int .i64 d.lib, .slice a d.kids.length cap, .int .i64 d.kind, .int .i64 d.n, .string d.name, .int .i64 d.stamp, .int .i64 d.lib, .slice a d.kids.length cap] 28)).heap[W1.heap.size]? = some (.cells #[.int .i64 (numD n).kind, .int .i64 (numD n).n, .string (numD n).name, .int .i64 (numD n).stamp, .int .i64 (numD n).lib, .slice none (numD n).kids.length 0, .int .i64 d.kind, .int .i64 d.n, .string d.name, .int .i64 d.stamp, .int .i64 d.lib, .slice a d.kids.length cap, .int .i64 d.kind, .int .i64 d.n, .string d.name, .int .i64 d.stamp, .int .i64 d.lib, .slice a d.kids.length cap] 28 (0, 0)) := World.alloc_heap_new W1 _
          have hS2 := hS.trans (hb2.mono hS.size)
          change K _ (W1.alloc (.cells #[.int .i64 (numD n).kind, .int .i64 (numD n).n, .string (numD n).name, .int .i64 (numD n).stamp, .int .i64 (numD n).lib, .slice none (numD n).kids.length 0, .int .i64 d.kind, .int .i64 d.n, .string d.name, .int .i64 d.stamp, .int .i64 d.lib, .slice a d.kids.length cap, .int .i64 d.kind, .int .i64 d.n, .string d.name, .int .i64 d.stamp, .int .i64 d.lib, .slice a d.kids.length cap] 28))
          generalize W1.alloc (.cells #[.int .i64 (numD n).kind, .int .i64 (numD n).n, .string (numD n).name, .int .i64 (numD n).stamp, .int .i64 (numD n).lib, .slice none (numD n).kids.length 0, .int .i64 d.kind, .int .i64 d.n, .string d.name, .int .i64 d.stamp, .int .i64 d.lib, .slice a d.kids.length cap, .int .i64 d.kind, .int .i64 d.n, .string d.name, .int .i64 d.stamp, .int .i64 d.lib, .slice a d.kids.length cap] 28) = W2 at hb2 hN2 hS2 ⊢
          have BL_2 : Hid (W2.heap[W1.heap.size]? = some (.cells #[.int .i64 (numD n).kind, .int .i64 (numD n).n, .string (numD n).name, .int .i64 (numD n).stamp, .int .i64 (numD n).lib, .slice none (numD n).kids.length 0, .int .i64 d.kind, .int .i64 d.n, .string d.name, .int .i64 d.stamp, .int .i64 d.lib, .slice a d.kids.length cap, .int .i64 d.kind, .int .i64 d.n, .string d.name, .int .i64 d.stamp, .int .i64 d.lib, .slice a d.kids.length cap] 28 (0, 0))) := hN2
          clear hb2 hN2
          refine hK.out _ _ hS2 (fun hS => ?_)
          clear hK K
          refine wpAnyH_ready (rs := [6, 11]) (by kernel_rfl) (by simp) (AllReadyH.cons (o := { dst := some 40, op := Op.call { callee := Callee.value (Operand.func 19), args := #[Operand.tmp 39], argTypes := #[26] }, type := 28, pos := _, after := _, guard := none }) rfl (fun K hK => ?_) (AllReadyH.cons (o := { dst := some 9, op := Op.alloc 28, type := 0, pos := _, after := _, guard := none }) rfl (fun K hK => ?_) AllReadyH.nil))
          · go_simp
            refine Calls.mono (List_any [numD n, d, d] (some ⟨W1.heap.size, 0, none⟩) 3 W2) ?_
            rintro e W3 ⟨rfl, hb3⟩
            have BL_3 : Hid (W3.heap[W1.heap.size]? = some (.cells #[.int .i64 (numD n).kind, .int .i64 (numD n).n, .string (numD n).name, .int .i64 (numD n).stamp, .int .i64 (numD n).lib, .slice none (numD n).kids.length 0, .int .i64 d.kind, .int .i64 d.n, .string d.name, .int .i64 d.stamp, .int .i64 d.lib, .slice a d.kids.length cap, .int .i64 d.kind, .int .i64 d.n, .string d.name, .int .i64 d.stamp, .int .i64 d.lib, .slice a d.kids.length cap] 28 (0, 0))) := (hb3.block _ (Array.getElem?_eq_some_iff.1 BL_2.out).1).trans BL_2.out
            have hS3 := hS.trans (hb3.mono hS.size)
            clear hb3
            try unfold dv
            show K _ W3
            refine hK.out _ _ hS3 (fun hS => ?_)
            clear hK K
            refine wpAnyH_ready (rs := [7, 11]) (by kernel_rfl) (by simp) (AllReadyH.cons (o := { dst := some 41, op := Op.call { callee := Callee.value (Operand.func 11), args := #[Operand.tmp 34, Operand.tmp 40, Operand.const (Value.int IntKind.i64 1), Operand.const (Value.int IntKind.i64 1)], argTypes := #[25, 28, 3, 3] }, type := 32, pos := _, after := _, guard := none }) rfl (fun K hK => ?_) (AllReadyH.cons (o := { dst := some 9, op := Op.alloc 28, type := 0, pos := _, after := _, guard := none }) rfl (fun K hK => ?_) AllReadyH.nil))
            · go_simp
              have US4 := Use_here g _ [] eachR none (some ⟨rb2, 0, none⟩) 0 1 (listD [numD n, d, d]) (some ⟨W1.heap.size, 0, none⟩) 3 1 1 W3 (Strs.none _ _ _) (RL.out.lift hS) (Dn.row (F := fd) [((numD n), none, 0), (d, a, cap), (d, a, cap)] BL_3.out (by simp) (by intro e he; simp at he; rcases he with rfl | rfl <;> first | exact ⟨Nat.zero_le _, Nat.zero_le _, Dn.nil _ _ _⟩ | exact ⟨hnm, hcap, DD.out.lift hS⟩)) (by show 3 ≤ 3; omega) smEach (smD_list (by intro x hx; simp at hx; rcases hx with rfl | rfl <;> first | exact smD_num _ | exact hsm))
              rw [U2.out] at US4
              refine Calls.mono US4 ?_
              clear US4
              rintro e W4 ⟨hb4, ra4, rc4, rf4, rfl, hc4, hd4⟩
              have BL_4 : Hid (W4.heap[W1.heap.size]? = some (.cells #[.int .i64 (numD n).kind, .int .i64 (numD n).n, .string (numD n).name, .int .i64 (numD n).stamp, .int .i64 (numD n).lib, .slice none (numD n).kids.length 0, .int .i64 d.kind, .int .i64 d.n, .string d.name, .int .i64 d.stamp, .int .i64 d.lib, .slice a d.kids.length cap, .int .i64 d.kind, .int .i64 d.n, .string d.name, .int .i64 d.stamp, .int .i64 d.lib, .slice a d.kids.length cap] 28 (0, 0))) := (hb4.block _ (Array.getElem?_eq_some_iff.1 BL_3.out).1).trans BL_3.out
              have RE_4 : Hid (r2.kids.length ≤ rc4 ∧ Dn W4 rf4 ra4 r2.kids) := ⟨hc4, Dn.of hd4⟩
              have hS4 := hS.trans (hb4.mono hS.size)
              clear hb4 hc4 hd4
              unfold dv
              show K _ W4
              refine hK.out _ _ hS4 (fun hS => ?_)
              clear hK K
              refine wpAnyH_take (i := 8) (oi := { dst := some 33, op := Op.move (Operand.tmp 41), type := 32, pos := _, after := _, guard := none }) (v := .tuple #[.agg #[.int .i64 r2.kind, .int .i64 r2.n, .string r2.name, .int .i64 r2.stamp, .int .i64 r2.lib, .slice ra4 r2.kids.length rc4], .int .i64 y2]) rfl (by kernel_rfl) (by kernel_rfl) (by kernel_rfl) (fun _ _ _ h => h) (Or.inl ⟨by rfl, fun u hu => by go_simp⟩) hS ?_
              simp only [Act.put, List.setIfInBounds_toArray, List.set_cons_zero, List.set_cons_succ]
              refine wpAnyH_take (i := 9) (oi := { dst := some 42, op := Op.extract (Operand.tmp 33) 0, type := 28, pos := _, after := _, guard := none }) (v := .agg #[.int .i64 r2.kind, .int .i64 r2.n, .string r2.name, .int .i64 r2.stamp, .int .i64 r2.lib, .slice ra4 r2.kids.length rc4]) rfl (by kernel_rfl) (by kernel_rfl) (by kernel_rfl) (fun _ _ _ h => h) (Or.inl ⟨by rfl, fun u hu => by go_simp⟩) hS ?_
              simp only [Act.put, List.setIfInBounds_toArray, List.set_cons_zero, List.set_cons_succ]
              refine wpAnyH_take (i := 10) (oi := { dst := some 43, op := Op.extract (Operand.tmp 33) 1, type := 31, pos := _, after := _, guard := none }) (v := .int .i64 y2) rfl (by kernel_rfl) (by kernel_rfl) (by kernel_rfl) (fun _ _ _ h => h) (Or.inl ⟨by rfl, fun u hu => by go_simp⟩) hS ?_
              simp only [Act.put, List.setIfInBounds_toArray, List.set_cons_zero, List.set_cons_succ]
              refine wpAnyH_ready (rs := [11]) (by kernel_rfl) (by simp) (AllReadyH.cons (o := { dst := some 9, op := Op.alloc 28, type := 0, pos := _, after := _, guard := none }) rfl (fun K hK => ?_) AllReadyH.nil)
              go_simp
              have hb5 : Below W4.heap.size W4 (W4.alloc (.cells #[.int .i64 0, .int .i64 0, .string ⟨#[]⟩, .int .i64 0, .int .i64 0, .slice none 0 0] 28)) := (Below.refl _ _).alloc (Nat.le_refl _) _
              have hN5 : Nod W4.heap.size ⟨0, 0, ⟨#[]⟩, 0, 0, []⟩ (.slice none 0 0) (W4.alloc (.cells #[.int .i64 0, .int .i64 0, .string ⟨#[]⟩, .int .i64 0, .int .i64 0, .slice none 0 0] 28)) := Nod.made W4 ⟨0, 0, ⟨#[]⟩, 0, 0, []⟩ (.slice none 0 0)
              have hnb5 : wc.heap.size ≤ W4.heap.size := hS.size
              have hS5 := hS.trans (hb5.mono hS.size)
              change K _ (W4.alloc (.cells #[.int .i64 0, .int .i64 0, .string ⟨#[]⟩, .int .i64 0, .int .i64 0, .slice none 0 0] 28))
              generalize W4.alloc (.cells #[.int .i64 0, .int .i64 0, .string ⟨#[]⟩, .int .i64 0, .int .i64 0, .slice none 0 0] 28) = W5 at hb5 hN5 hS5 ⊢
              have RE_5 : Hid (r2.kids.length ≤ rc4 ∧ DnX W5 W4.heap.size rf4 ra4 r2.kids) := ⟨RE_4.out.1, RE_4.out.2.x hb5⟩
              have BL_5 : Hid (W5.heap[W1.heap.size]? = some (.cells #[.int .i64 (numD n).kind, .int .i64 (numD n).n, .string (numD n).name, .int .i64 (numD n).stamp, .int .i64 (numD n).lib, .slice none (numD n).kids.length 0, .int .i64 d.kind, .int .i64 d.n, .string d.name, .int .i64 d.stamp, .int .i64 d.lib, .slice a d.kids.length cap, .int .i64 d.kind, .int .i64 d.n, .string d.name, .int .i64 d.stamp, .int .i64 d.lib, .slice a d.kids.length cap] 28 (0, 0))) := (hb5.block _ (Array.getElem?_eq_some_iff.1 BL_4.out).1).trans BL_4.out
              have NO_5 : Hid (Nod W4.heap.size ⟨0, 0, ⟨#[]⟩, 0, 0, []⟩ (.slice none 0 0) W5 ∧ wc.heap.size ≤ W4.heap.size) := ⟨hN5, hnb5⟩
              clear hb5 hN5 hnb5
              refine hK.out _ _ hS5 (fun hS => ?_)
              clear hK K
              refine wpAnyH_ready (rs := [12]) (by kernel_rfl) (by simp) (AllReadyH.cons (o := { dst := none, op := Op.store 28 (Operand.tmp 9) (Operand.tmp 42), type := 0, pos := _, after := _, guard := none }) rfl (fun K hK => ?_) AllReadyH.nil)
              obtain ⟨q, q0, q1, q2, q3, q4, q5, qz⟩ := NO_5.out.1
              simp only at q0 q1 q2 q3 q4 q5
              go_simp
              refine hK.out _ _ (below_sixN hS NO_5.out.2 _ _ _ _ _ _) (fun hS => ?_)
              clear hK K
              refine wpAnyH_take (i := 13) (oi := { dst := some 10, op := Op.assign (Operand.tmp 43), type := 31, pos := _, after := _, guard := none }) (v := .int .i64 y2) rfl (by kernel_rfl) (by kernel_rfl) (by kernel_rfl) (fun _ _ _ h => h) (Or.inl ⟨by rfl, fun u hu => by go_simp⟩) hS ?_
              simp only [Act.put, List.setIfInBounds_toArray, List.set_cons_zero, List.set_cons_succ]
              refine wpAnyH_done (by kernel_rfl) ?_ _
              clear q q0 q1 q2 q3 q4 q5 qz
              go_wp2_with fail
              go_meet
              case rel =>
                exact ⟨_, _, _, _, rfl, rfl, NO_5.out.1.store r2 (.slice ra4 r2.kids.length rc4), RE_5.out.1, RE_5.out.2.store _ _ _ _ _ _, hS⟩
            · go_simp
              have hb4 : Below W3.heap.size W3 (W3.alloc (.cells #[.int .i64 0, .int .i64 0, .string ⟨#[]⟩, .int .i64 0, .int .i64 0, .slice none 0 0] 28)) := (Below.refl _ _).alloc (Nat.le_refl _) _
              have hN4 : Nod W3.heap.size ⟨0, 0, ⟨#[]⟩, 0, 0, []⟩ (.slice none 0 0) (W3.alloc (.cells #[.int .i64 0, .int .i64 0, .string ⟨#[]⟩, .int .i64 0, .int .i64 0, .slice none 0 0] 28)) := Nod.made W3 ⟨0, 0, ⟨#[]⟩, 0, 0, []⟩ (.slice none 0 0)
              have hnb4 : wc.heap.size ≤ W3.heap.size := hS.size
              have hS4 := hS.trans (hb4.mono hS.size)
              change K _ (W3.alloc (.cells #[.int .i64 0, .int .i64 0, .string ⟨#[]⟩, .int .i64 0, .int .i64 0, .slice none 0 0] 28))
              generalize W3.alloc (.cells #[.int .i64 0, .int .i64 0, .string ⟨#[]⟩, .int .i64 0, .int .i64 0, .slice none 0 0] 28) = W4 at hb4 hN4 hS4 ⊢
              have BL_4 : Hid (W4.heap[W1.heap.size]? = some (.cells #[.int .i64 (numD n).kind, .int .i64 (numD n).n, .string (numD n).name, .int .i64 (numD n).stamp, .int .i64 (numD n).lib, .slice none (numD n).kids.length 0, .int .i64 d.kind, .int .i64 d.n, .string d.name, .int .i64 d.stamp, .int .i64 d.lib, .slice a d.kids.length cap, .int .i64 d.kind, .int .i64 d.n, .string d.name, .int .i64 d.stamp, .int .i64 d.lib, .slice a d.kids.length cap] 28 (0, 0))) := (hb4.block _ (Array.getElem?_eq_some_iff.1 BL_3.out).1).trans BL_3.out
              have NO_4 : Hid (Nod W3.heap.size ⟨0, 0, ⟨#[]⟩, 0, 0, []⟩ (.slice none 0 0) W4 ∧ wc.heap.size ≤ W3.heap.size) := ⟨hN4, hnb4⟩
              clear hb4 hN4 hnb4
              refine hK.out _ _ hS4 (fun hS => ?_)
              clear hK K
              refine wpAnyH_ready (rs := [7]) (by kernel_rfl) (by simp) (AllReadyH.cons (o := { dst := some 41, op := Op.call { callee := Callee.value (Operand.func 11), args := #[Operand.tmp 34, Operand.tmp 40, Operand.const (Value.int IntKind.i64 1), Operand.const (Value.int IntKind.i64 1)], argTypes := #[25, 28, 3, 3] }, type := 32, pos := _, after := _, guard := none }) rfl (fun K hK => ?_) AllReadyH.nil)
              go_simp
              have US5 := Use_here g _ [] eachR none (some ⟨rb2, 0, none⟩) 0 1 (listD [numD n, d, d]) (some ⟨W1.heap.size, 0, none⟩) 3 1 1 W4 (Strs.none _ _ _) (RL.out.lift hS) (Dn.row (F := fd) [((numD n), none, 0), (d, a, cap), (d, a, cap)] BL_4.out (by simp) (by intro e he; simp at he; rcases he with rfl | rfl <;> first | exact ⟨Nat.zero_le _, Nat.zero_le _, Dn.nil _ _ _⟩ | exact ⟨hnm, hcap, DD.out.lift hS⟩)) (by show 3 ≤ 3; omega) smEach (smD_list (by intro x hx; simp at hx; rcases hx with rfl | rfl <;> first | exact smD_num _ | exact hsm))
              rw [U2.out] at US5
              refine Calls.mono US5 ?_
              clear US5
              rintro e W5 ⟨hb5, ra5, rc5, rf5, rfl, hc5, hd5⟩
              have hx5 := NO_4.out.1.lt
              have BL_5 : Hid (W5.heap[W1.heap.size]? = some (.cells #[.int .i64 (numD n).kind, .int .i64 (numD n).n, .string (numD n).name, .int .i64 (numD n).stamp, .int .i64 (numD n).lib, .slice none (numD n).kids.length 0, .int .i64 d.kind, .int .i64 d.n, .string d.name, .int .i64 d.stamp, .int .i64 d.lib, .slice a d.kids.length cap, .int .i64 d.kind, .int .i64 d.n, .string d.name, .int .i64 d.stamp, .int .i64 d.lib, .slice a d.kids.length cap] 28 (0, 0))) := (hb5.block _ (Array.getElem?_eq_some_iff.1 BL_4.out).1).trans BL_4.out
              have NO_5 : Hid (Nod W3.heap.size ⟨0, 0, ⟨#[]⟩, 0, 0, []⟩ (.slice none 0 0) W5 ∧ wc.heap.size ≤ W3.heap.size) := ⟨NO_4.out.1.after hb5, NO_4.out.2⟩
              have RE_5 : Hid (r2.kids.length ≤ rc5 ∧ DnX W5 (W3.heap.size) rf5 ra5 r2.kids) := ⟨hc5, DnX.of hd5 hx5⟩
              have hS5 := hS.trans (hb5.mono hS.size)
              clear hb5 hc5 hd5
              clear hx5
              unfold dv
              show K _ W5
              refine hK.out _ _ hS5 (fun hS => ?_)
              clear hK K
              refine wpAnyH_take (i := 8) (oi := { dst := some 33, op := Op.move (Operand.tmp 41), type := 32, pos := _, after := _, guard := none }) (v := .tuple #[.agg #[.int .i64 r2.kind, .int .i64 r2.n, .string r2.name, .int .i64 r2.stamp, .int .i64 r2.lib, .slice ra5 r2.kids.length rc5], .int .i64 y2]) rfl (by kernel_rfl) (by kernel_rfl) (by kernel_rfl) (fun _ _ _ h => h) (Or.inl ⟨by rfl, fun u hu => by go_simp⟩) hS ?_
              simp only [Act.put, List.setIfInBounds_toArray, List.set_cons_zero, List.set_cons_succ]
              refine wpAnyH_take (i := 9) (oi := { dst := some 42, op := Op.extract (Operand.tmp 33) 0, type := 28, pos := _, after := _, guard := none }) (v := .agg #[.int .i64 r2.kind, .int .i64 r2.n, .string r2.name, .int .i64 r2.stamp, .int .i64 r2.lib, .slice ra5 r2.kids.length rc5]) rfl (by kernel_rfl) (by kernel_rfl) (by kernel_rfl) (fun _ _ _ h => h) (Or.inl ⟨by rfl, fun u hu => by go_simp⟩) hS ?_
              simp only [Act.put, List.setIfInBounds_toArray, List.set_cons_zero, List.set_cons_succ]
              refine wpAnyH_take (i := 10) (oi := { dst := some 43, op := Op.extract (Operand.tmp 33) 1, type := 31, pos := _, after := _, guard := none }) (v := .int .i64 y2) rfl (by kernel_rfl) (by kernel_rfl) (by kernel_rfl) (fun _ _ _ h => h) (Or.inl ⟨by rfl, fun u hu => by go_simp⟩) hS ?_
              simp only [Act.put, List.setIfInBounds_toArray, List.set_cons_zero, List.set_cons_succ]
              refine wpAnyH_ready (rs := [12]) (by kernel_rfl) (by simp) (AllReadyH.cons (o := { dst := none, op := Op.store 28 (Operand.tmp 9) (Operand.tmp 42), type := 0, pos := _, after := _, guard := none }) rfl (fun K hK => ?_) AllReadyH.nil)
              obtain ⟨q, q0, q1, q2, q3, q4, q5, qz⟩ := NO_5.out.1
              simp only at q0 q1 q2 q3 q4 q5
              go_simp
              refine hK.out _ _ (below_sixN hS NO_5.out.2 _ _ _ _ _ _) (fun hS => ?_)
              clear hK K
              refine wpAnyH_take (i := 13) (oi := { dst := some 10, op := Op.assign (Operand.tmp 43), type := 31, pos := _, after := _, guard := none }) (v := .int .i64 y2) rfl (by kernel_rfl) (by kernel_rfl) (by kernel_rfl) (fun _ _ _ h => h) (Or.inl ⟨by rfl, fun u hu => by go_simp⟩) hS ?_
              simp only [Act.put, List.setIfInBounds_toArray, List.set_cons_zero, List.set_cons_succ]
              refine wpAnyH_done (by kernel_rfl) ?_ _
              clear q q0 q1 q2 q3 q4 q5 qz
              go_wp2_with fail
              go_meet
              case rel =>
                exact ⟨_, _, _, _, rfl, rfl, NO_5.out.1.store r2 (.slice ra5 r2.kids.length rc5), RE_5.out.1, RE_5.out.2.store _ _ _ _ _ _, hS⟩
          · go_simp
            have hb3 : Below W2.heap.size W2 (W2.alloc (.cells #[.int .i64 0, .int .i64 0, .string ⟨#[]⟩, .int .i64 0, .int .i64 0, .slice none 0 0] 28)) := (Below.refl _ _).alloc (Nat.le_refl _) _
            have hN3 : Nod W2.heap.size ⟨0, 0, ⟨#[]⟩, 0, 0, []⟩ (.slice none 0 0) (W2.alloc (.cells #[.int .i64 0, .int .i64 0, .string ⟨#[]⟩, .int .i64 0, .int .i64 0, .slice none 0 0] 28)) := Nod.made W2 ⟨0, 0, ⟨#[]⟩, 0, 0, []⟩ (.slice none 0 0)
            have hnb3 : wc.heap.size ≤ W2.heap.size := hS.size
            have hS3 := hS.trans (hb3.mono hS.size)
            change K _ (W2.alloc (.cells #[.int .i64 0, .int .i64 0, .string ⟨#[]⟩, .int .i64 0, .int .i64 0, .slice none 0 0] 28))
            generalize W2.alloc (.cells #[.int .i64 0, .int .i64 0, .string ⟨#[]⟩, .int .i64 0, .int .i64 0, .slice none 0 0] 28) = W3 at hb3 hN3 hS3 ⊢
            have BL_3 : Hid (W3.heap[W1.heap.size]? = some (.cells #[.int .i64 (numD n).kind, .int .i64 (numD n).n, .string (numD n).name, .int .i64 (numD n).stamp, .int .i64 (numD n).lib, .slice none (numD n).kids.length 0, .int .i64 d.kind, .int .i64 d.n, .string d.name, .int .i64 d.stamp, .int .i64 d.lib, .slice a d.kids.length cap, .int .i64 d.kind, .int .i64 d.n, .string d.name, .int .i64 d.stamp, .int .i64 d.lib, .slice a d.kids.length cap] 28 (0, 0))) := (hb3.block _ (Array.getElem?_eq_some_iff.1 BL_2.out).1).trans BL_2.out
            have NO_3 : Hid (Nod W2.heap.size ⟨0, 0, ⟨#[]⟩, 0, 0, []⟩ (.slice none 0 0) W3 ∧ wc.heap.size ≤ W2.heap.size) := ⟨hN3, hnb3⟩
            clear hb3 hN3 hnb3
            refine hK.out _ _ hS3 (fun hS => ?_)
            clear hK K
            refine wpAnyH_ready (rs := [6]) (by kernel_rfl) (by simp) (AllReadyH.cons (o := { dst := some 40, op := Op.call { callee := Callee.value (Operand.func 19), args := #[Operand.tmp 39], argTypes := #[26] }, type := 28, pos := _, after := _, guard := none }) rfl (fun K hK => ?_) AllReadyH.nil)
            go_simp
            refine Calls.mono (List_any [numD n, d, d] (some ⟨W1.heap.size, 0, none⟩) 3 W3) ?_
            rintro e W4 ⟨rfl, hb4⟩
            have BL_4 : Hid (W4.heap[W1.heap.size]? = some (.cells #[.int .i64 (numD n).kind, .int .i64 (numD n).n, .string (numD n).name, .int .i64 (numD n).stamp, .int .i64 (numD n).lib, .slice none (numD n).kids.length 0, .int .i64 d.kind, .int .i64 d.n, .string d.name, .int .i64 d.stamp, .int .i64 d.lib, .slice a d.kids.length cap, .int .i64 d.kind, .int .i64 d.n, .string d.name, .int .i64 d.stamp, .int .i64 d.lib, .slice a d.kids.length cap] 28 (0, 0))) := (hb4.block _ (Array.getElem?_eq_some_iff.1 BL_3.out).1).trans BL_3.out
            have NO_4 : Hid (Nod W2.heap.size ⟨0, 0, ⟨#[]⟩, 0, 0, []⟩ (.slice none 0 0) W4 ∧ wc.heap.size ≤ W2.heap.size) := ⟨NO_3.out.1.after hb4, NO_3.out.2⟩
            have hS4 := hS.trans (hb4.mono hS.size)
            clear hb4
            try unfold dv
            show K _ W4
            refine hK.out _ _ hS4 (fun hS => ?_)
            clear hK K
            refine wpAnyH_ready (rs := [7]) (by kernel_rfl) (by simp) (AllReadyH.cons (o := { dst := some 41, op := Op.call { callee := Callee.value (Operand.func 11), args := #[Operand.tmp 34, Operand.tmp 40, Operand.const (Value.int IntKind.i64 1), Operand.const (Value.int IntKind.i64 1)], argTypes := #[25, 28, 3, 3] }, type := 32, pos := _, after := _, guard := none }) rfl (fun K hK => ?_) AllReadyH.nil)
            go_simp
            have US5 := Use_here g _ [] eachR none (some ⟨rb2, 0, none⟩) 0 1 (listD [numD n, d, d]) (some ⟨W1.heap.size, 0, none⟩) 3 1 1 W4 (Strs.none _ _ _) (RL.out.lift hS) (Dn.row (F := fd) [((numD n), none, 0), (d, a, cap), (d, a, cap)] BL_4.out (by simp) (by intro e he; simp at he; rcases he with rfl | rfl <;> first | exact ⟨Nat.zero_le _, Nat.zero_le _, Dn.nil _ _ _⟩ | exact ⟨hnm, hcap, DD.out.lift hS⟩)) (by show 3 ≤ 3; omega) smEach (smD_list (by intro x hx; simp at hx; rcases hx with rfl | rfl <;> first | exact smD_num _ | exact hsm))
            rw [U2.out] at US5
            refine Calls.mono US5 ?_
            clear US5
            rintro e W5 ⟨hb5, ra5, rc5, rf5, rfl, hc5, hd5⟩
            have hx5 := NO_4.out.1.lt
            have BL_5 : Hid (W5.heap[W1.heap.size]? = some (.cells #[.int .i64 (numD n).kind, .int .i64 (numD n).n, .string (numD n).name, .int .i64 (numD n).stamp, .int .i64 (numD n).lib, .slice none (numD n).kids.length 0, .int .i64 d.kind, .int .i64 d.n, .string d.name, .int .i64 d.stamp, .int .i64 d.lib, .slice a d.kids.length cap, .int .i64 d.kind, .int .i64 d.n, .string d.name, .int .i64 d.stamp, .int .i64 d.lib, .slice a d.kids.length cap] 28 (0, 0))) := (hb5.block _ (Array.getElem?_eq_some_iff.1 BL_4.out).1).trans BL_4.out
            have NO_5 : Hid (Nod W2.heap.size ⟨0, 0, ⟨#[]⟩, 0, 0, []⟩ (.slice none 0 0) W5 ∧ wc.heap.size ≤ W2.heap.size) := ⟨NO_4.out.1.after hb5, NO_4.out.2⟩
            have RE_5 : Hid (r2.kids.length ≤ rc5 ∧ DnX W5 (W2.heap.size) rf5 ra5 r2.kids) := ⟨hc5, DnX.of hd5 hx5⟩
            have hS5 := hS.trans (hb5.mono hS.size)
            clear hb5 hc5 hd5
            clear hx5
            unfold dv
            show K _ W5
            refine hK.out _ _ hS5 (fun hS => ?_)
            clear hK K
            refine wpAnyH_take (i := 8) (oi := { dst := some 33, op := Op.move (Operand.tmp 41), type := 32, pos := _, after := _, guard := none }) (v := .tuple #[.agg #[.int .i64 r2.kind, .int .i64 r2.n, .string r2.name, .int .i64 r2.stamp, .int .i64 r2.lib, .slice ra5 r2.kids.length rc5], .int .i64 y2]) rfl (by kernel_rfl) (by kernel_rfl) (by kernel_rfl) (fun _ _ _ h => h) (Or.inl ⟨by rfl, fun u hu => by go_simp⟩) hS ?_
            simp only [Act.put, List.setIfInBounds_toArray, List.set_cons_zero, List.set_cons_succ]
            refine wpAnyH_take (i := 9) (oi := { dst := some 42, op := Op.extract (Operand.tmp 33) 0, type := 28, pos := _, after := _, guard := none }) (v := .agg #[.int .i64 r2.kind, .int .i64 r2.n, .string r2.name, .int .i64 r2.stamp, .int .i64 r2.lib, .slice ra5 r2.kids.length rc5]) rfl (by kernel_rfl) (by kernel_rfl) (by kernel_rfl) (fun _ _ _ h => h) (Or.inl ⟨by rfl, fun u hu => by go_simp⟩) hS ?_
            simp only [Act.put, List.setIfInBounds_toArray, List.set_cons_zero, List.set_cons_succ]
            refine wpAnyH_take (i := 10) (oi := { dst := some 43, op := Op.extract (Operand.tmp 33) 1, type := 31, pos := _, after := _, guard := none }) (v := .int .i64 y2) rfl (by kernel_rfl) (by kernel_rfl) (by kernel_rfl) (fun _ _ _ h => h) (Or.inl ⟨by rfl, fun u hu => by go_simp⟩) hS ?_
            simp only [Act.put, List.setIfInBounds_toArray, List.set_cons_zero, List.set_cons_succ]
            refine wpAnyH_ready (rs := [12]) (by kernel_rfl) (by simp) (AllReadyH.cons (o := { dst := none, op := Op.store 28 (Operand.tmp 9) (Operand.tmp 42), type := 0, pos := _, after := _, guard := none }) rfl (fun K hK => ?_) AllReadyH.nil)
            obtain ⟨q, q0, q1, q2, q3, q4, q5, qz⟩ := NO_5.out.1
            simp only at q0 q1 q2 q3 q4 q5
            go_simp
            refine hK.out _ _ (below_sixN hS NO_5.out.2 _ _ _ _ _ _) (fun hS => ?_)
            clear hK K
            refine wpAnyH_take (i := 13) (oi := { dst := some 10, op := Op.assign (Operand.tmp 43), type := 31, pos := _, after := _, guard := none }) (v := .int .i64 y2) rfl (by kernel_rfl) (by kernel_rfl) (by kernel_rfl) (fun _ _ _ h => h) (Or.inl ⟨by rfl, fun u hu => by go_simp⟩) hS ?_
            simp only [Act.put, List.setIfInBounds_toArray, List.set_cons_zero, List.set_cons_succ]
            refine wpAnyH_done (by kernel_rfl) ?_ _
            clear q q0 q1 q2 q3 q4 q5 qz
            go_wp2_with fail
            go_meet
            case rel =>
              exact ⟨_, _, _, _, rfl, rfl, NO_5.out.1.store r2 (.slice ra5 r2.kids.length rc5), RE_5.out.1, RE_5.out.2.store _ _ _ _ _ _, hS⟩
        · go_simp
          have hb2 : Below W1.heap.size W1 (W1.alloc (.cells #[.int .i64 0, .int .i64 0, .string ⟨#[]⟩, .int .i64 0, .int .i64 0, .slice none 0 0] 28)) := (Below.refl _ _).alloc (Nat.le_refl _) _
          have hN2 : Nod W1.heap.size ⟨0, 0, ⟨#[]⟩, 0, 0, []⟩ (.slice none 0 0) (W1.alloc (.cells #[.int .i64 0, .int .i64 0, .string ⟨#[]⟩, .int .i64 0, .int .i64 0, .slice none 0 0] 28)) := Nod.made W1 ⟨0, 0, ⟨#[]⟩, 0, 0, []⟩ (.slice none 0 0)
          have hnb2 : wc.heap.size ≤ W1.heap.size := hS.size
          have hS2 := hS.trans (hb2.mono hS.size)
          change K _ (W1.alloc (.cells #[.int .i64 0, .int .i64 0, .string ⟨#[]⟩, .int .i64 0, .int .i64 0, .slice none 0 0] 28))
          generalize W1.alloc (.cells #[.int .i64 0, .int .i64 0, .string ⟨#[]⟩, .int .i64 0, .int .i64 0, .slice none 0 0] 28) = W2 at hb2 hN2 hS2 ⊢
          have NO_2 : Hid (Nod W1.heap.size ⟨0, 0, ⟨#[]⟩, 0, 0, []⟩ (.slice none 0 0) W2 ∧ wc.heap.size ≤ W1.heap.size) := ⟨hN2, hnb2⟩
          clear hb2 hN2 hnb2
          refine hK.out _ _ hS2 (fun hS => ?_)
          clear hK K
          refine wpAnyH_ready (rs := [5]) (by kernel_rfl) (by simp) (AllReadyH.cons (o := { dst := some 39, op := Op.buildSlice 26 3 #[(0, Operand.tmp 36), (1, Operand.tmp 37), (2, Operand.tmp 38)], type := 26, pos := _, after := _, guard := none }) rfl (fun K hK => ?_) AllReadyH.nil)
          go_simp
          have hb3 : Below W2.heap.size W2 (W2.alloc (.cells #[.int .i64 (numD n).kind, .int .i64 (numD n).n, .string (numD n).name, .int .i64 (numD n).stamp, .int .i64 (numD n).lib, .slice none (numD n).kids.length 0, .int .i64 d.kind, .int .i64 d.n, .string d.name, .int .i64 d.stamp, .int .i64 d.lib, .slice a d.kids.length cap, .int .i64 d.kind, .int .i64 d.n, .string d.name, .int .i64 d.stamp, .int .i64 d.lib, .slice a d.kids.length cap] 28)) := (Below.refl _ _).alloc (Nat.le_refl _) _
          have hN3 : (W2.alloc (.cells #[.int .i64 (numD n).kind, .int .i64 (numD n).n, .string (numD n).name, .int .i64 (numD n).stamp, .int .i64 (numD n).lib, .slice none (numD n).kids.length 0, .int .i64 d.kind, .int .i64 d.n, .string d.name, .int .i64 d.stamp, .int .i64 d.lib, .slice a d.kids.length cap, .int .i64 d.kind, .int .i64 d.n, .string d.name, .int .i64 d.stamp, .int .i64 d.lib, .slice a d.kids.length cap] 28)).heap[W2.heap.size]? = some (.cells #[.int .i64 (numD n).kind, .int .i64 (numD n).n, .string (numD n).name, .int .i64 (numD n).stamp, .int .i64 (numD n).lib, .slice none (numD n).kids.length 0, .int .i64 d.kind, .int .i64 d.n, .string d.name, .int .i64 d.stamp, .int .i64 d.lib, .slice a d.kids.length cap, .int .i64 d.kind, .int .i64 d.n, .string d.name, .int .i64 d.stamp, .int .i64 d.lib, .slice a d.kids.length cap] 28 (0, 0)) := World.alloc_heap_new W2 _
          have hS3 := hS.trans (hb3.mono hS.size)
          change K _ (W2.alloc (.cells #[.int .i64 (numD n).kind, .int .i64 (numD n).n, .string (numD n).name, .int .i64 (numD n).stamp, .int .i64 (numD n).lib, .slice none (numD n).kids.length 0, .int .i64 d.kind, .int .i64 d.n, .string d.name, .int .i64 d.stamp, .int .i64 d.lib, .slice a d.kids.length cap, .int .i64 d.kind, .int .i64 d.n, .string d.name, .int .i64 d.stamp, .int .i64 d.lib, .slice a d.kids.length cap] 28))
          generalize W2.alloc (.cells #[.int .i64 (numD n).kind, .int .i64 (numD n).n, .string (numD n).name, .int .i64 (numD n).stamp, .int .i64 (numD n).lib, .slice none (numD n).kids.length 0, .int .i64 d.kind, .int .i64 d.n, .string d.name, .int .i64 d.stamp, .int .i64 d.lib, .slice a d.kids.length cap, .int .i64 d.kind, .int .i64 d.n, .string d.name, .int .i64 d.stamp, .int .i64 d.lib, .slice a d.kids.length cap] 28) = W3 at hb3 hN3 hS3 ⊢
          have NO_3 : Hid (Nod W1.heap.size ⟨0, 0, ⟨#[]⟩, 0, 0, []⟩ (.slice none 0 0) W3 ∧ wc.heap.size ≤ W1.heap.size) := ⟨NO_2.out.1.after hb3, NO_2.out.2⟩
          have BL_3 : Hid (W3.heap[W2.heap.size]? = some (.cells #[.int .i64 (numD n).kind, .int .i64 (numD n).n, .string (numD n).name, .int .i64 (numD n).stamp, .int .i64 (numD n).lib, .slice none (numD n).kids.length 0, .int .i64 d.kind, .int .i64 d.n, .string d.name, .int .i64 d.stamp, .int .i64 d.lib, .slice a d.kids.length cap, .int .i64 d.kind, .int .i64 d.n, .string d.name, .int .i64 d.stamp, .int .i64 d.lib, .slice a d.kids.length cap] 28 (0, 0))) := hN3
          clear hb3 hN3
          refine hK.out _ _ hS3 (fun hS => ?_)
          clear hK K
          refine wpAnyH_ready (rs := [6]) (by kernel_rfl) (by simp) (AllReadyH.cons (o := { dst := some 40, op := Op.call { callee := Callee.value (Operand.func 19), args := #[Operand.tmp 39], argTypes := #[26] }, type := 28, pos := _, after := _, guard := none }) rfl (fun K hK => ?_) AllReadyH.nil)
          go_simp
          refine Calls.mono (List_any [numD n, d, d] (some ⟨W2.heap.size, 0, none⟩) 3 W3) ?_
          rintro e W4 ⟨rfl, hb4⟩
          have NO_4 : Hid (Nod W1.heap.size ⟨0, 0, ⟨#[]⟩, 0, 0, []⟩ (.slice none 0 0) W4 ∧ wc.heap.size ≤ W1.heap.size) := ⟨NO_3.out.1.after hb4, NO_3.out.2⟩
          have BL_4 : Hid (W4.heap[W2.heap.size]? = some (.cells #[.int .i64 (numD n).kind, .int .i64 (numD n).n, .string (numD n).name, .int .i64 (numD n).stamp, .int .i64 (numD n).lib, .slice none (numD n).kids.length 0, .int .i64 d.kind, .int .i64 d.n, .string d.name, .int .i64 d.stamp, .int .i64 d.lib, .slice a d.kids.length cap, .int .i64 d.kind, .int .i64 d.n, .string d.name, .int .i64 d.stamp, .int .i64 d.lib, .slice a d.kids.length cap] 28 (0, 0))) := (hb4.block _ (Array.getElem?_eq_some_iff.1 BL_3.out).1).trans BL_3.out
          have hS4 := hS.trans (hb4.mono hS.size)
          clear hb4
          try unfold dv
          show K _ W4
          refine hK.out _ _ hS4 (fun hS => ?_)
          clear hK K
          refine wpAnyH_ready (rs := [7]) (by kernel_rfl) (by simp) (AllReadyH.cons (o := { dst := some 41, op := Op.call { callee := Callee.value (Operand.func 11), args := #[Operand.tmp 34, Operand.tmp 40, Operand.const (Value.int IntKind.i64 1), Operand.const (Value.int IntKind.i64 1)], argTypes := #[25, 28, 3, 3] }, type := 32, pos := _, after := _, guard := none }) rfl (fun K hK => ?_) AllReadyH.nil)
          go_simp
          have US5 := Use_here g _ [] eachR none (some ⟨rb2, 0, none⟩) 0 1 (listD [numD n, d, d]) (some ⟨W2.heap.size, 0, none⟩) 3 1 1 W4 (Strs.none _ _ _) (RL.out.lift hS) (Dn.row (F := fd) [((numD n), none, 0), (d, a, cap), (d, a, cap)] BL_4.out (by simp) (by intro e he; simp at he; rcases he with rfl | rfl <;> first | exact ⟨Nat.zero_le _, Nat.zero_le _, Dn.nil _ _ _⟩ | exact ⟨hnm, hcap, DD.out.lift hS⟩)) (by show 3 ≤ 3; omega) smEach (smD_list (by intro x hx; simp at hx; rcases hx with rfl | rfl <;> first | exact smD_num _ | exact hsm))
          rw [U2.out] at US5
          refine Calls.mono US5 ?_
          clear US5
          rintro e W5 ⟨hb5, ra5, rc5, rf5, rfl, hc5, hd5⟩
          have hx5 := NO_4.out.1.lt
          have NO_5 : Hid (Nod W1.heap.size ⟨0, 0, ⟨#[]⟩, 0, 0, []⟩ (.slice none 0 0) W5 ∧ wc.heap.size ≤ W1.heap.size) := ⟨NO_4.out.1.after hb5, NO_4.out.2⟩
          have BL_5 : Hid (W5.heap[W2.heap.size]? = some (.cells #[.int .i64 (numD n).kind, .int .i64 (numD n).n, .string (numD n).name, .int .i64 (numD n).stamp, .int .i64 (numD n).lib, .slice none (numD n).kids.length 0, .int .i64 d.kind, .int .i64 d.n, .string d.name, .int .i64 d.stamp, .int .i64 d.lib, .slice a d.kids.length cap, .int .i64 d.kind, .int .i64 d.n, .string d.name, .int .i64 d.stamp, .int .i64 d.lib, .slice a d.kids.length cap] 28 (0, 0))) := (hb5.block _ (Array.getElem?_eq_some_iff.1 BL_4.out).1).trans BL_4.out
          have RE_5 : Hid (r2.kids.length ≤ rc5 ∧ DnX W5 (W1.heap.size) rf5 ra5 r2.kids) := ⟨hc5, DnX.of hd5 hx5⟩
          have hS5 := hS.trans (hb5.mono hS.size)
          clear hb5 hc5 hd5
          clear hx5
          unfold dv
          show K _ W5
          refine hK.out _ _ hS5 (fun hS => ?_)
          clear hK K
          refine wpAnyH_take (i := 8) (oi := { dst := some 33, op := Op.move (Operand.tmp 41), type := 32, pos := _, after := _, guard := none }) (v := .tuple #[.agg #[.int .i64 r2.kind, .int .i64 r2.n, .string r2.name, .int .i64 r2.stamp, .int .i64 r2.lib, .slice ra5 r2.kids.length rc5], .int .i64 y2]) rfl (by kernel_rfl) (by kernel_rfl) (by kernel_rfl) (fun _ _ _ h => h) (Or.inl ⟨by rfl, fun u hu => by go_simp⟩) hS ?_
          simp only [Act.put, List.setIfInBounds_toArray, List.set_cons_zero, List.set_cons_succ]
          refine wpAnyH_take (i := 9) (oi := { dst := some 42, op := Op.extract (Operand.tmp 33) 0, type := 28, pos := _, after := _, guard := none }) (v := .agg #[.int .i64 r2.kind, .int .i64 r2.n, .string r2.name, .int .i64 r2.stamp, .int .i64 r2.lib, .slice ra5 r2.kids.length rc5]) rfl (by kernel_rfl) (by kernel_rfl) (by kernel_rfl) (fun _ _ _ h => h) (Or.inl ⟨by rfl, fun u hu => by go_simp⟩) hS ?_
          simp only [Act.put, List.setIfInBounds_toArray, List.set_cons_zero, List.set_cons_succ]
          refine wpAnyH_take (i := 10) (oi := { dst := some 43, op := Op.extract (Operand.tmp 33) 1, type := 31, pos := _, after := _, guard := none }) (v := .int .i64 y2) rfl (by kernel_rfl) (by kernel_rfl) (by kernel_rfl) (fun _ _ _ h => h) (Or.inl ⟨by rfl, fun u hu => by go_simp⟩) hS ?_
          simp only [Act.put, List.setIfInBounds_toArray, List.set_cons_zero, List.set_cons_succ]
          refine wpAnyH_ready (rs := [12]) (by kernel_rfl) (by simp) (AllReadyH.cons (o := { dst := none, op := Op.store 28 (Operand.tmp 9) (Operand.tmp 42), type := 0, pos := _, after := _, guard := none }) rfl (fun K hK => ?_) AllReadyH.nil)
          obtain ⟨q, q0, q1, q2, q3, q4, q5, qz⟩ := NO_5.out.1
          simp only at q0 q1 q2 q3 q4 q5
          go_simp
          refine hK.out _ _ (below_sixN hS NO_5.out.2 _ _ _ _ _ _) (fun hS => ?_)
          clear hK K
          refine wpAnyH_take (i := 13) (oi := { dst := some 10, op := Op.assign (Operand.tmp 43), type := 31, pos := _, after := _, guard := none }) (v := .int .i64 y2) rfl (by kernel_rfl) (by kernel_rfl) (by kernel_rfl) (fun _ _ _ h => h) (Or.inl ⟨by rfl, fun u hu => by go_simp⟩) hS ?_
          simp only [Act.put, List.setIfInBounds_toArray, List.set_cons_zero, List.set_cons_succ]
          refine wpAnyH_done (by kernel_rfl) ?_ _
          clear q q0 q1 q2 q3 q4 q5 qz
          go_wp2_with fail
          go_meet
          case rel =>
            exact ⟨_, _, _, _, rfl, rfl, NO_5.out.1.store r2 (.slice ra5 r2.kids.length rc5), RE_5.out.1, RE_5.out.2.store _ _ _ _ _ _, hS⟩
      · go_simp
        have hb1 : Below wc.drew.heap.size wc.drew (wc.drew.alloc (.cells #[.int .i64 0, .int .i64 0, .string ⟨#[]⟩, .int .i64 0, .int .i64 0, .slice none 0 0] 28)) := (Below.refl _ _).alloc (Nat.le_refl _) _
        have hN1 : Nod wc.heap.size ⟨0, 0, ⟨#[]⟩, 0, 0, []⟩ (.slice none 0 0) (wc.drew.alloc (.cells #[.int .i64 0, .int .i64 0, .string ⟨#[]⟩, .int .i64 0, .int .i64 0, .slice none 0 0] 28)) := Nod.made wc.drew ⟨0, 0, ⟨#[]⟩, 0, 0, []⟩ (.slice none 0 0)
        have hnb1 : wc.heap.size ≤ wc.heap.size := hS.size
        have hS1 := hS.trans (hb1.mono hS.size)
        change K _ (wc.drew.alloc (.cells #[.int .i64 0, .int .i64 0, .string ⟨#[]⟩, .int .i64 0, .int .i64 0, .slice none 0 0] 28))
        generalize wc.drew.alloc (.cells #[.int .i64 0, .int .i64 0, .string ⟨#[]⟩, .int .i64 0, .int .i64 0, .slice none 0 0] 28) = W1 at hb1 hN1 hS1 ⊢
        have NO_1 : Hid (Nod wc.heap.size ⟨0, 0, ⟨#[]⟩, 0, 0, []⟩ (.slice none 0 0) W1 ∧ wc.heap.size ≤ wc.heap.size) := ⟨hN1, hnb1⟩
        clear hb1 hN1 hnb1
        refine hK.out _ _ hS1 (fun hS => ?_)
        clear hK K
        refine wpAnyH_ready (rs := [2]) (by kernel_rfl) (by simp) (AllReadyH.cons (o := { dst := some 36, op := Op.call { callee := Callee.value (Operand.func 20), args := #[Operand.tmp 35], argTypes := #[2] }, type := 28, pos := _, after := _, guard := none }) rfl (fun K hK => ?_) AllReadyH.nil)
        go_simp
        refine Calls.mono (Num_any n W1) ?_
        rintro e W2 ⟨rfl, hb2⟩
        have NO_2 : Hid (Nod wc.heap.size ⟨0, 0, ⟨#[]⟩, 0, 0, []⟩ (.slice none 0 0) W2 ∧ wc.heap.size ≤ wc.heap.size) := ⟨NO_1.out.1.after hb2, NO_1.out.2⟩
        have hS2 := hS.trans (hb2.mono hS.size)
        clear hb2
        try unfold dv
        show K _ W2
        refine hK.out _ _ hS2 (fun hS => ?_)
        clear hK K
        refine wpAnyH_ready (rs := [5]) (by kernel_rfl) (by simp) (AllReadyH.cons (o := { dst := some 39, op := Op.buildSlice 26 3 #[(0, Operand.tmp 36), (1, Operand.tmp 37), (2, Operand.tmp 38)], type := 26, pos := _, after := _, guard := none }) rfl (fun K hK => ?_) AllReadyH.nil)
        go_simp
        have hb3 : Below W2.heap.size W2 (W2.alloc (.cells #[.int .i64 (numD n).kind, .int .i64 (numD n).n, .string (numD n).name, .int .i64 (numD n).stamp, .int .i64 (numD n).lib, .slice none (numD n).kids.length 0, .int .i64 d.kind, .int .i64 d.n, .string d.name, .int .i64 d.stamp, .int .i64 d.lib, .slice a d.kids.length cap, .int .i64 d.kind, .int .i64 d.n, .string d.name, .int .i64 d.stamp, .int .i64 d.lib, .slice a d.kids.length cap] 28)) := (Below.refl _ _).alloc (Nat.le_refl _) _
        have hN3 : (W2.alloc (.cells #[.int .i64 (numD n).kind, .int .i64 (numD n).n, .string (numD n).name, .int .i64 (numD n).stamp, .int .i64 (numD n).lib, .slice none (numD n).kids.length 0, .int .i64 d.kind, .int .i64 d.n, .string d.name, .int .i64 d.stamp, .int .i64 d.lib, .slice a d.kids.length cap, .int .i64 d.kind, .int .i64 d.n, .string d.name, .int .i64 d.stamp, .int .i64 d.lib, .slice a d.kids.length cap] 28)).heap[W2.heap.size]? = some (.cells #[.int .i64 (numD n).kind, .int .i64 (numD n).n, .string (numD n).name, .int .i64 (numD n).stamp, .int .i64 (numD n).lib, .slice none (numD n).kids.length 0, .int .i64 d.kind, .int .i64 d.n, .string d.name, .int .i64 d.stamp, .int .i64 d.lib, .slice a d.kids.length cap, .int .i64 d.kind, .int .i64 d.n, .string d.name, .int .i64 d.stamp, .int .i64 d.lib, .slice a d.kids.length cap] 28 (0, 0)) := World.alloc_heap_new W2 _
        have hS3 := hS.trans (hb3.mono hS.size)
        change K _ (W2.alloc (.cells #[.int .i64 (numD n).kind, .int .i64 (numD n).n, .string (numD n).name, .int .i64 (numD n).stamp, .int .i64 (numD n).lib, .slice none (numD n).kids.length 0, .int .i64 d.kind, .int .i64 d.n, .string d.name, .int .i64 d.stamp, .int .i64 d.lib, .slice a d.kids.length cap, .int .i64 d.kind, .int .i64 d.n, .string d.name, .int .i64 d.stamp, .int .i64 d.lib, .slice a d.kids.length cap] 28))
        generalize W2.alloc (.cells #[.int .i64 (numD n).kind, .int .i64 (numD n).n, .string (numD n).name, .int .i64 (numD n).stamp, .int .i64 (numD n).lib, .slice none (numD n).kids.length 0, .int .i64 d.kind, .int .i64 d.n, .string d.name, .int .i64 d.stamp, .int .i64 d.lib, .slice a d.kids.length cap, .int .i64 d.kind, .int .i64 d.n, .string d.name, .int .i64 d.stamp, .int .i64 d.lib, .slice a d.kids.length cap] 28) = W3 at hb3 hN3 hS3 ⊢
        have NO_3 : Hid (Nod wc.heap.size ⟨0, 0, ⟨#[]⟩, 0, 0, []⟩ (.slice none 0 0) W3 ∧ wc.heap.size ≤ wc.heap.size) := ⟨NO_2.out.1.after hb3, NO_2.out.2⟩
        have BL_3 : Hid (W3.heap[W2.heap.size]? = some (.cells #[.int .i64 (numD n).kind, .int .i64 (numD n).n, .string (numD n).name, .int .i64 (numD n).stamp, .int .i64 (numD n).lib, .slice none (numD n).kids.length 0, .int .i64 d.kind, .int .i64 d.n, .string d.name, .int .i64 d.stamp, .int .i64 d.lib, .slice a d.kids.length cap, .int .i64 d.kind, .int .i64 d.n, .string d.name, .int .i64 d.stamp, .int .i64 d.lib, .slice a d.kids.length cap] 28 (0, 0))) := hN3
        clear hb3 hN3
        refine hK.out _ _ hS3 (fun hS => ?_)
        clear hK K
        refine wpAnyH_ready (rs := [6]) (by kernel_rfl) (by simp) (AllReadyH.cons (o := { dst := some 40, op := Op.call { callee := Callee.value (Operand.func 19), args := #[Operand.tmp 39], argTypes := #[26] }, type := 28, pos := _, after := _, guard := none }) rfl (fun K hK => ?_) AllReadyH.nil)
        go_simp
        refine Calls.mono (List_any [numD n, d, d] (some ⟨W2.heap.size, 0, none⟩) 3 W3) ?_
        rintro e W4 ⟨rfl, hb4⟩
        have NO_4 : Hid (Nod wc.heap.size ⟨0, 0, ⟨#[]⟩, 0, 0, []⟩ (.slice none 0 0) W4 ∧ wc.heap.size ≤ wc.heap.size) := ⟨NO_3.out.1.after hb4, NO_3.out.2⟩
        have BL_4 : Hid (W4.heap[W2.heap.size]? = some (.cells #[.int .i64 (numD n).kind, .int .i64 (numD n).n, .string (numD n).name, .int .i64 (numD n).stamp, .int .i64 (numD n).lib, .slice none (numD n).kids.length 0, .int .i64 d.kind, .int .i64 d.n, .string d.name, .int .i64 d.stamp, .int .i64 d.lib, .slice a d.kids.length cap, .int .i64 d.kind, .int .i64 d.n, .string d.name, .int .i64 d.stamp, .int .i64 d.lib, .slice a d.kids.length cap] 28 (0, 0))) := (hb4.block _ (Array.getElem?_eq_some_iff.1 BL_3.out).1).trans BL_3.out
        have hS4 := hS.trans (hb4.mono hS.size)
        clear hb4
        try unfold dv
        show K _ W4
        refine hK.out _ _ hS4 (fun hS => ?_)
        clear hK K
        refine wpAnyH_ready (rs := [7]) (by kernel_rfl) (by simp) (AllReadyH.cons (o := { dst := some 41, op := Op.call { callee := Callee.value (Operand.func 11), args := #[Operand.tmp 34, Operand.tmp 40, Operand.const (Value.int IntKind.i64 1), Operand.const (Value.int IntKind.i64 1)], argTypes := #[25, 28, 3, 3] }, type := 32, pos := _, after := _, guard := none }) rfl (fun K hK => ?_) AllReadyH.nil)
        go_simp
        have US5 := Use_here g _ [] eachR none (some ⟨rb2, 0, none⟩) 0 1 (listD [numD n, d, d]) (some ⟨W2.heap.size, 0, none⟩) 3 1 1 W4 (Strs.none _ _ _) (RL.out.lift hS) (Dn.row (F := fd) [((numD n), none, 0), (d, a, cap), (d, a, cap)] BL_4.out (by simp) (by intro e he; simp at he; rcases he with rfl | rfl <;> first | exact ⟨Nat.zero_le _, Nat.zero_le _, Dn.nil _ _ _⟩ | exact ⟨hnm, hcap, DD.out.lift hS⟩)) (by show 3 ≤ 3; omega) smEach (smD_list (by intro x hx; simp at hx; rcases hx with rfl | rfl <;> first | exact smD_num _ | exact hsm))
        rw [U2.out] at US5
        refine Calls.mono US5 ?_
        clear US5
        rintro e W5 ⟨hb5, ra5, rc5, rf5, rfl, hc5, hd5⟩
        have hx5 := NO_4.out.1.lt
        have NO_5 : Hid (Nod wc.heap.size ⟨0, 0, ⟨#[]⟩, 0, 0, []⟩ (.slice none 0 0) W5 ∧ wc.heap.size ≤ wc.heap.size) := ⟨NO_4.out.1.after hb5, NO_4.out.2⟩
        have BL_5 : Hid (W5.heap[W2.heap.size]? = some (.cells #[.int .i64 (numD n).kind, .int .i64 (numD n).n, .string (numD n).name, .int .i64 (numD n).stamp, .int .i64 (numD n).lib, .slice none (numD n).kids.length 0, .int .i64 d.kind, .int .i64 d.n, .string d.name, .int .i64 d.stamp, .int .i64 d.lib, .slice a d.kids.length cap, .int .i64 d.kind, .int .i64 d.n, .string d.name, .int .i64 d.stamp, .int .i64 d.lib, .slice a d.kids.length cap] 28 (0, 0))) := (hb5.block _ (Array.getElem?_eq_some_iff.1 BL_4.out).1).trans BL_4.out
        have RE_5 : Hid (r2.kids.length ≤ rc5 ∧ DnX W5 (wc.heap.size) rf5 ra5 r2.kids) := ⟨hc5, DnX.of hd5 hx5⟩
        have hS5 := hS.trans (hb5.mono hS.size)
        clear hb5 hc5 hd5
        clear hx5
        unfold dv
        show K _ W5
        refine hK.out _ _ hS5 (fun hS => ?_)
        clear hK K
        refine wpAnyH_take (i := 8) (oi := { dst := some 33, op := Op.move (Operand.tmp 41), type := 32, pos := _, after := _, guard := none }) (v := .tuple #[.agg #[.int .i64 r2.kind, .int .i64 r2.n, .string r2.name, .int .i64 r2.stamp, .int .i64 r2.lib, .slice ra5 r2.kids.length rc5], .int .i64 y2]) rfl (by kernel_rfl) (by kernel_rfl) (by kernel_rfl) (fun _ _ _ h => h) (Or.inl ⟨by rfl, fun u hu => by go_simp⟩) hS ?_
        simp only [Act.put, List.setIfInBounds_toArray, List.set_cons_zero, List.set_cons_succ]
        refine wpAnyH_take (i := 9) (oi := { dst := some 42, op := Op.extract (Operand.tmp 33) 0, type := 28, pos := _, after := _, guard := none }) (v := .agg #[.int .i64 r2.kind, .int .i64 r2.n, .string r2.name, .int .i64 r2.stamp, .int .i64 r2.lib, .slice ra5 r2.kids.length rc5]) rfl (by kernel_rfl) (by kernel_rfl) (by kernel_rfl) (fun _ _ _ h => h) (Or.inl ⟨by rfl, fun u hu => by go_simp⟩) hS ?_
        simp only [Act.put, List.setIfInBounds_toArray, List.set_cons_zero, List.set_cons_succ]
        refine wpAnyH_take (i := 10) (oi := { dst := some 43, op := Op.extract (Operand.tmp 33) 1, type := 31, pos := _, after := _, guard := none }) (v := .int .i64 y2) rfl (by kernel_rfl) (by kernel_rfl) (by kernel_rfl) (fun _ _ _ h => h) (Or.inl ⟨by rfl, fun u hu => by go_simp⟩) hS ?_
        simp only [Act.put, List.setIfInBounds_toArray, List.set_cons_zero, List.set_cons_succ]
        refine wpAnyH_ready (rs := [12]) (by kernel_rfl) (by simp) (AllReadyH.cons (o := { dst := none, op := Op.store 28 (Operand.tmp 9) (Operand.tmp 42), type := 0, pos := _, after := _, guard := none }) rfl (fun K hK => ?_) AllReadyH.nil)
        obtain ⟨q, q0, q1, q2, q3, q4, q5, qz⟩ := NO_5.out.1
        simp only at q0 q1 q2 q3 q4 q5
        go_simp
        refine hK.out _ _ (below_sixN hS NO_5.out.2 _ _ _ _ _ _) (fun hS => ?_)
        clear hK K
        refine wpAnyH_take (i := 13) (oi := { dst := some 10, op := Op.assign (Operand.tmp 43), type := 31, pos := _, after := _, guard := none }) (v := .int .i64 y2) rfl (by kernel_rfl) (by kernel_rfl) (by kernel_rfl) (fun _ _ _ h => h) (Or.inl ⟨by rfl, fun u hu => by go_simp⟩) hS ?_
        simp only [Act.put, List.setIfInBounds_toArray, List.set_cons_zero, List.set_cons_succ]
        refine wpAnyH_done (by kernel_rfl) ?_ _
        clear q q0 q1 q2 q3 q4 q5 qz
        go_wp2_with fail
        go_meet
        case rel =>
          exact ⟨_, _, _, _, rfl, rfl, NO_5.out.1.store r2 (.slice ra5 r2.kids.length rc5), RE_5.out.1, RE_5.out.2.store _ _ _ _ _ _, hS⟩
    case rest =>
      obtain ⟨N2, a2, c2, f2, rfl, rfl, n2, hc2, hd2, hb2⟩ := hcut
      have G2 : Hid ((wc.heap[w.heap.size]? = some (.cells #[.int .i64 d.kind, .int .i64 d.n, .string d.name, .int .i64 d.stamp, .int .i64 d.lib, .slice a d.kids.length cap] 28 (0, 0))) ∧ Below w.heap.size w wc ∧ Dn wc fd a d.kids ∧ Nod N1 r1 (.slice a1 r1.kids.length c1) wc ∧ Dn wc f1 a1 r1.kids ∧ Nod N2 r2 (.slice a2 r2.kids.length c2) wc ∧ Dn wc f2 a2 r2.kids) := ⟨(hb2.block _ (Array.getElem?_eq_some_iff.1 G1.out.1).1).trans G1.out.1, G1.out.2.1.trans (hb2.mono G1.out.2.1.size), G1.out.2.2.1.lift hb2, G1.out.2.2.2.2.2.1.after hb2, G1.out.2.2.2.2.2.2.lift hb2, n2, hd2⟩
      clear n2 hc2 hd2 hb2 G1
      by_cases h1 : y1 = 4
      · subst h1
        go_wp2_with fail
        go_ret
        exact ⟨rfl, G2.out.2.1⟩
      · obtain ⟨rfl, hr1⟩ := Y1.out.resolve_left h1
        by_cases h2 : y2 = 4
        · subst h2
          go_wp2_with fail
          go_ret
          exact ⟨rfl, G2.out.2.1⟩
        · obtain ⟨rfl, hr2⟩ := Y2.out.resolve_left h2
          have E1 : Hid (bareD r1 = bareD d) := by rw [hr1]; exact bareD_twice d
          have E2 : Hid (bareD r2 = bareD (listD [d, d])) := by rw [hr2]; exact bareD_twice _
          clear hr1 hr2 h1 h2
          go_upto_region 9 with fail
          have e0 : wc.cell? ⟨w.heap.size, 0, none⟩ = some (.int .i64 d.kind) := by simp [World.cell?, G2.out.1]
          have e1 : wc.cell? ⟨w.heap.size, 1, none⟩ = some (.int .i64 d.n) := by simp [World.cell?, G2.out.1]
          have e2 : wc.cell? ⟨w.heap.size, 2, none⟩ = some (.string d.name) := by simp [World.cell?, G2.out.1]
          have e3 : wc.cell? ⟨w.heap.size, 3, none⟩ = some (.int .i64 d.stamp) := by simp [World.cell?, G2.out.1]
          have e4 : wc.cell? ⟨w.heap.size, 4, none⟩ = some (.int .i64 d.lib) := by simp [World.cell?, G2.out.1]
          have e5 : wc.cell? ⟨w.heap.size, 5, none⟩ = some (.slice a d.kids.length cap) := by simp [World.cell?, G2.out.1]
          have hbd : w.heap.size < wc.heap.size := (Array.getElem?_eq_some_iff.1 G2.out.1).1
          obtain ⟨x, x0, x1, x2, x3, x4, x5, xz⟩ := G2.out.2.2.2.1
          obtain ⟨t, t0, t1, t2, t3, t4, t5, tz⟩ := G2.out.2.2.2.2.2.1
          have D0 : Hid (Dn wc fd a d.kids ∧ Dn wc f1 a1 r1.kids ∧ Dn wc f2 a2 r2.kids ∧ Below w.heap.size w wc) := ⟨G2.out.2.2.1, G2.out.2.2.2.2.1, G2.out.2.2.2.2.2.2, G2.out.2.1⟩
          refine wp_region_held_drew (S := fun u => Below wc.heap.size wc u) (by kernel_rfl) (Below.drew (Below.refl _ _)) (fun hS => ?_)
          refine wpAnyH_take (i := 0) (oi := { dst := some 56, op := Op.load 28 (Operand.tmp 7), type := 28, pos := _, after := _, guard := none }) (v := .agg #[.int .i64 r1.kind, .int .i64 r1.n, .string r1.name, .int .i64 r1.stamp, .int .i64 r1.lib, .slice a1 r1.kids.length c1]) rfl (by kernel_rfl) (by kernel_rfl) (by kernel_rfl) (fun _ _ _ h => h) (Or.inl ⟨by rfl, fun u hu => by (have z0 := (hu.cell (p := ⟨N1, 0, none⟩) x).trans x0; have z1 := (hu.cell (p := ⟨N1, 1, none⟩) x).trans x1; have z2 := (hu.cell (p := ⟨N1, 2, none⟩) x).trans x2; have z3 := (hu.cell (p := ⟨N1, 3, none⟩) x).trans x3; have z4 := (hu.cell (p := ⟨N1, 4, none⟩) x).trans x4; have z5 := (hu.cell (p := ⟨N1, 5, none⟩) x).trans x5; go_simp)⟩) hS ?_
          simp only [Act.put, List.setIfInBounds_toArray, List.set_cons_zero, List.set_cons_succ]
          refine wpAnyH_take (i := 1) (oi := { dst := some 57, op := Op.load 28 (Operand.tmp 2), type := 28, pos := _, after := _, guard := none }) (v := .agg #[.int .i64 d.kind, .int .i64 d.n, .string d.name, .int .i64 d.stamp, .int .i64 d.lib, .slice a d.kids.length cap]) rfl (by kernel_rfl) (by kernel_rfl) (by kernel_rfl) (fun _ _ _ h => h) (Or.inl ⟨by rfl, fun u hu => by (have z0 := (hu.cell (p := ⟨w.heap.size, 0, none⟩) hbd).trans e0; have z1 := (hu.cell (p := ⟨w.heap.size, 1, none⟩) hbd).trans e1; have z2 := (hu.cell (p := ⟨w.heap.size, 2, none⟩) hbd).trans e2; have z3 := (hu.cell (p := ⟨w.heap.size, 3, none⟩) hbd).trans e3; have z4 := (hu.cell (p := ⟨w.heap.size, 4, none⟩) hbd).trans e4; have z5 := (hu.cell (p := ⟨w.heap.size, 5, none⟩) hbd).trans e5; go_simp)⟩) hS ?_
          simp only [Act.put, List.setIfInBounds_toArray, List.set_cons_zero, List.set_cons_succ]
          refine wpAnyH_ready (rs := [2]) (by kernel_rfl) (by simp) (AllReadyH.cons (o := { dst := some 58, op := Op.call { callee := Callee.value (Operand.func 12), args := #[Operand.tmp 56, Operand.tmp 57], argTypes := #[28, 28] }, type := 4, pos := _, after := _, guard := none }) rfl (fun K hK => ?_) AllReadyH.nil)
          go_simp
          refine Calls.mono (Equal_here _ _ r1 d a1 a c1 cap wc.drew (D0.out.2.1.lift hS) (D0.out.1.lift hS) E1.out) ?_
          rintro e W1 ⟨rfl, hb1⟩
          have hS1 := hS.trans (hb1.mono hS.size)
          clear hb1
          try unfold dv
          show K _ W1
          refine hK.out _ _ hS1 (fun hS => ?_)
          clear hK K
          refine wpAnyH_take (i := 3) (oi := { dst := some 59, op := Op.move (Operand.tmp 58), type := 4, pos := _, after := _, guard := none }) (v := .bool true) rfl (by kernel_rfl) (by kernel_rfl) (by kernel_rfl) (fun _ _ _ h => h) (Or.inl ⟨by rfl, fun u hu => by go_simp⟩) hS ?_
          simp only [Act.put, List.setIfInBounds_toArray, List.set_cons_zero, List.set_cons_succ]
          refine wpAnyH_take (i := 4) (oi := { dst := some 60, op := Op.load 28 (Operand.tmp 9), type := 28, pos := _, after := _, guard := some (3, true) }) (v := .agg #[.int .i64 r2.kind, .int .i64 r2.n, .string r2.name, .int .i64 r2.stamp, .int .i64 r2.lib, .slice a2 r2.kids.length c2]) rfl (by kernel_rfl) (by kernel_rfl) (by kernel_rfl) (fun _ _ _ h => h) (Or.inl ⟨by rfl, fun u hu => by (have z0 := (hu.cell (p := ⟨N2, 0, none⟩) t).trans t0; have z1 := (hu.cell (p := ⟨N2, 1, none⟩) t).trans t1; have z2 := (hu.cell (p := ⟨N2, 2, none⟩) t).trans t2; have z3 := (hu.cell (p := ⟨N2, 3, none⟩) t).trans t3; have z4 := (hu.cell (p := ⟨N2, 4, none⟩) t).trans t4; have z5 := (hu.cell (p := ⟨N2, 5, none⟩) t).trans t5; go_simp)⟩) hS ?_
          simp only [Act.put, List.setIfInBounds_toArray, List.set_cons_zero, List.set_cons_succ]
          refine wpAnyH_take (i := 5) (oi := { dst := some 61, op := Op.load 28 (Operand.tmp 2), type := 28, pos := _, after := _, guard := some (3, true) }) (v := .agg #[.int .i64 d.kind, .int .i64 d.n, .string d.name, .int .i64 d.stamp, .int .i64 d.lib, .slice a d.kids.length cap]) rfl (by kernel_rfl) (by kernel_rfl) (by kernel_rfl) (fun _ _ _ h => h) (Or.inl ⟨by rfl, fun u hu => by (have z0 := (hu.cell (p := ⟨w.heap.size, 0, none⟩) hbd).trans e0; have z1 := (hu.cell (p := ⟨w.heap.size, 1, none⟩) hbd).trans e1; have z2 := (hu.cell (p := ⟨w.heap.size, 2, none⟩) hbd).trans e2; have z3 := (hu.cell (p := ⟨w.heap.size, 3, none⟩) hbd).trans e3; have z4 := (hu.cell (p := ⟨w.heap.size, 4, none⟩) hbd).trans e4; have z5 := (hu.cell (p := ⟨w.heap.size, 5, none⟩) hbd).trans e5; go_simp)⟩) hS ?_
          simp only [Act.put, List.setIfInBounds_toArray, List.set_cons_zero, List.set_cons_succ]
          refine wpAnyH_take (i := 6) (oi := { dst := some 62, op := Op.load 28 (Operand.tmp 2), type := 28, pos := _, after := _, guard := some (3, true) }) (v := .agg #[.int .i64 d.kind, .int .i64 d.n, .string d.name, .int .i64 d.stamp, .int .i64 d.lib, .slice a d.kids.length cap]) rfl (by kernel_rfl) (by kernel_rfl) (by kernel_rfl) (fun _ _ _ h => h) (Or.inl ⟨by rfl, fun u hu => by (have z0 := (hu.cell (p := ⟨w.heap.size, 0, none⟩) hbd).trans e0; have z1 := (hu.cell (p := ⟨w.heap.size, 1, none⟩) hbd).trans e1; have z2 := (hu.cell (p := ⟨w.heap.size, 2, none⟩) hbd).trans e2; have z3 := (hu.cell (p := ⟨w.heap.size, 3, none⟩) hbd).trans e3; have z4 := (hu.cell (p := ⟨w.heap.size, 4, none⟩) hbd).trans e4; have z5 := (hu.cell (p := ⟨w.heap.size, 5, none⟩) hbd).trans e5; go_simp)⟩) hS ?_
          simp only [Act.put, List.setIfInBounds_toArray, List.set_cons_zero, List.set_cons_succ]
          refine wpAnyH_ready (rs := [7]) (by kernel_rfl) (by simp) (AllReadyH.cons (o := { dst := some 63, op := Op.buildSlice 26 2 #[(0, Operand.tmp 61), (1, Operand.tmp 62)], type := 26, pos := _, after := _, guard := some (3, true) }) rfl (fun K hK => ?_) AllReadyH.nil)
          go_simp
          have hb2 : Below W1.heap.size W1 (W1.alloc (.cells #[.int .i64 d.kind, .int .i64 d.n, .string d.name, .int .i64 d.stamp, .int .i64 d.lib, .slice a d.kids.length cap, .int .i64 d.kind, .int .i64 d.n, .string d.name, .int .i64 d.stamp, .int .i64 d.lib, .slice a d.kids.length cap] 28)) := (Below.refl _ _).alloc (Nat.le_refl _) _
          have hN2 : (W1.alloc (.cells #[.int .i64 d.kind, .int .i64 d.n, .string d.name, .int .i64 d.stamp, .int .i64 d.lib, .slice a d.kids.length cap, .int .i64 d.kind, .int .i64 d.n, .string d.name, .int .i64 d.stamp, .int .i64 d.lib, .slice a d.kids.length cap] 28)).heap[W1.heap.size]? = some (.cells #[.int .i64 d.kind, .int .i64 d.n, .string d.name, .int .i64 d.stamp, .int .i64 d.lib, .slice a d.kids.length cap, .int .i64 d.kind, .int .i64 d.n, .string d.name, .int .i64 d.stamp, .int .i64 d.lib, .slice a d.kids.length cap] 28 (0, 0)) := World.alloc_heap_new W1 _
          have hS2 := hS.trans (hb2.mono hS.size)
          change K _ (W1.alloc (.cells #[.int .i64 d.kind, .int .i64 d.n, .string d.name, .int .i64 d.stamp, .int .i64 d.lib, .slice a d.kids.length cap, .int .i64 d.kind, .int .i64 d.n, .string d.name, .int .i64 d.stamp, .int .i64 d.lib, .slice a d.kids.length cap] 28))
          generalize W1.alloc (.cells #[.int .i64 d.kind, .int .i64 d.n, .string d.name, .int .i64 d.stamp, .int .i64 d.lib, .slice a d.kids.length cap, .int .i64 d.kind, .int .i64 d.n, .string d.name, .int .i64 d.stamp, .int .i64 d.lib, .slice a d.kids.length cap] 28) = W2 at hb2 hN2 hS2 ⊢
          have BL_2 : Hid (W2.heap[W1.heap.size]? = some (.cells #[.int .i64 d.kind, .int .i64 d.n, .string d.name, .int .i64 d.stamp, .int .i64 d.lib, .slice a d.kids.length cap, .int .i64 d.kind, .int .i64 d.n, .string d.name, .int .i64 d.stamp, .int .i64 d.lib, .slice a d.kids.length cap] 28 (0, 0))) := hN2
          clear hb2 hN2
          refine hK.out _ _ hS2 (fun hS => ?_)
          clear hK K
          refine wpAnyH_ready (rs := [8]) (by kernel_rfl) (by simp) (AllReadyH.cons (o := { dst := some 64, op := Op.call { callee := Callee.value (Operand.func 19), args := #[Operand.tmp 63], argTypes := #[26] }, type := 28, pos := _, after := _, guard := some (3, true) }) rfl (fun K hK => ?_) AllReadyH.nil)
          go_simp
          refine Calls.mono (List_any [d, d] (some ⟨W1.heap.size, 0, none⟩) 2 W2) ?_
          rintro e W3 ⟨rfl, hb3⟩
          have BL_3 : Hid (W3.heap[W1.heap.size]? = some (.cells #[.int .i64 d.kind, .int .i64 d.n, .string d.name, .int .i64 d.stamp, .int .i64 d.lib, .slice a d.kids.length cap, .int .i64 d.kind, .int .i64 d.n, .string d.name, .int .i64 d.stamp, .int .i64 d.lib, .slice a d.kids.length cap] 28 (0, 0))) := (hb3.block _ (Array.getElem?_eq_some_iff.1 BL_2.out).1).trans BL_2.out
          have hS3 := hS.trans (hb3.mono hS.size)
          clear hb3
          try unfold dv
          show K _ W3
          refine hK.out _ _ hS3 (fun hS => ?_)
          clear hK K
          refine wpAnyH_ready (rs := [9]) (by kernel_rfl) (by simp) (AllReadyH.cons (o := { dst := some 65, op := Op.call { callee := Callee.value (Operand.func 12), args := #[Operand.tmp 60, Operand.tmp 64], argTypes := #[28, 28] }, type := 4, pos := _, after := _, guard := some (3, true) }) rfl (fun K hK => ?_) AllReadyH.nil)
          go_simp
          refine Calls.mono (Equal_here _ _ r2 (listD [d, d]) a2 (some ⟨W1.heap.size, 0, none⟩) c2 2 W3 (D0.out.2.2.1.lift hS) (Dn.row (F := fd) [(d, a, cap), (d, a, cap)] BL_3.out (by simp) (by intro e he; simp at he; subst he; exact ⟨hnm, hcap, D0.out.1.lift hS⟩)) E2.out) ?_
          rintro e W4 ⟨rfl, hb4⟩
          have BL_4 : Hid (W4.heap[W1.heap.size]? = some (.cells #[.int .i64 d.kind, .int .i64 d.n, .string d.name, .int .i64 d.stamp, .int .i64 d.lib, .slice a d.kids.length cap, .int .i64 d.kind, .int .i64 d.n, .string d.name, .int .i64 d.stamp, .int .i64 d.lib, .slice a d.kids.length cap] 28 (0, 0))) := (hb4.block _ (Array.getElem?_eq_some_iff.1 BL_3.out).1).trans BL_3.out
          have hS4 := hS.trans (hb4.mono hS.size)
          clear hb4
          try unfold dv
          show K _ W4
          refine hK.out _ _ hS4 (fun hS => ?_)
          clear hK K
          refine wpAnyH_take (i := 10) (oi := { dst := some 66, op := Op.pick (Operand.tmp 59) (Operand.tmp 65) (Operand.const (Value.bool false)), type := 4, pos := _, after := _, guard := none }) (v := .bool true) rfl (by kernel_rfl) (by kernel_rfl) (by kernel_rfl) (fun _ _ _ h => h) (Or.inl ⟨by rfl, fun u hu => by go_simp⟩) hS ?_
          simp only [Act.put, List.setIfInBounds_toArray, List.set_cons_zero, List.set_cons_succ]
          refine wpAnyH_take (i := 11) (oi := { dst := some 4, op := Op.assign (Operand.tmp 66), type := 4, pos := _, after := _, guard := none }) (v := .bool true) rfl (by kernel_rfl) (by kernel_rfl) (by kernel_rfl) (fun _ _ _ h => h) (Or.inl ⟨by rfl, fun u hu => by go_simp⟩) hS ?_
          simp only [Act.put, List.setIfInBounds_toArray, List.set_cons_zero, List.set_cons_succ]
          refine wpAnyH_done (by kernel_rfl) ?_ _
          go_wp2_with fail
          go_ret
          exact ⟨rfl, D0.out.2.2.2.trans (hS.mono D0.out.2.2.2.size)⟩
end Go.Proofs.YtceapbliljiplaeGreatDoor
