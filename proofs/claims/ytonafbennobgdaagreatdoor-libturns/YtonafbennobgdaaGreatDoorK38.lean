/- Chapter 3's laws: data read, made, appended. Chapter 3's laws: alive. Chapter 3, plainly: how much a library has. Chapter 3's laws: a declaration is made. Chapter 3's laws: a library of one's own is parsed. Chapter 3: small lemmas of the laws. Chapter 3's laws: a declaration is made, its data where they were and in blocks of its own. -/
import Derived.Deep.AppendLies
import Derived.Deep.CutRange
import Derived.Test.YtonafbennobgdaaGreatDoorK02
import Derived.Test.YtonafbennobgdaaGreatDoorK34
import Derived.Test.YtonafbennobgdaaGreatDoorK37
namespace Go.Proofs.YtonafbennobgdaaGreatDoor
set_option linter.unusedVariables false
set_option linter.unusedSimpArgs false
section
open Go.RowKit

theorem pick_list {α : Type} (p : Nat → α → Prop) : ∀ (n : Nat), (∀ i, i < n → ∃ x, p i x) → ∃ l : List α, l.length = n ∧ ∀ i x, l[i]? = some x → p i x
 | 0, _ => ⟨[], rfl, by simp⟩
 | n + 1, h => by
  obtain ⟨l, hl, hp⟩ := pick_list p n (fun i hi => h i (by omega))
  obtain ⟨x, hx⟩ := h n (by omega)
  refine ⟨l ++ [x], by simp [hl], ?_⟩
  intro i y hy
  by_cases hi : i < n
  ·rw [List.getElem?_append_left (by omega)] at hy
   exact hp i y hy
  ·have hlen := (List.getElem?_eq_some_iff.1 hy).1
   simp at hlen
   obtain rfl : i = n := by omega
   rw [List.getElem?_append_right (by omega)] at hy
   simp [hl] at hy
   subst hy
   exact hx

def Dn (w : World) (f : Nat) (a : Option Addr) (ds : List Dat) : Prop := Dc (fun b => b < w.heap.size) w f a ds
theorem Dn.lift {w w' : World} {f : Nat} {a : Option Addr} {ds : List Dat} (h : Dn w f a ds) (hb : Below w.heap.size w w') : Dn w' f a ds :=
 Dc.stay (fun k hk => hb.block k hk) (fun k hk => Nat.lt_of_lt_of_le hk hb.size) f a ds h
theorem Dn.of {w0 w : World} {f : Nat} {a : Option Addr} {ds : List Dat} (h : Dc (New w0 w) w f a ds) : Dn w f a ds := Dc.stay (fun _ _ => rfl) (fun k hk => hk.2) f a ds h
structure RowD (B : Nat) (v : Value) (es : List (Dat × Option Addr × Nat)) (w : World) : Prop where
 own : w.ownsRow B 26 6 v es.length (flat es)
 kids : ∀ e ∈ es, e.1.name.size ≤ maxLen ∧ e.1.kids.length ≤ e.2.2 ∧ ∃ f, Dc (fun b => b < w.heap.size ∧ some b ≠ v.ownBlock) w f e.2.1 e.1.kids
theorem RowD.below {B : Nat} {v : Value} {es : List (Dat × Option Addr × Nat)} {w w' : World} (h : RowD B v es w) (hk : Below w.heap.size w w') : RowD B v es w' := by
 refine ⟨h.own.kept (row := none) ⟨hk.os, hk.tape, hk.output, hk.size, fun k h1 _ => hk.block k h1⟩ (by cases hv : v.ownBlock <;> simp), fun e he => ?_⟩
 obtain ⟨hn, hc, f, hd⟩ := h.kids e he
 exact ⟨hn, hc, f, Dc.stay (fun k hk2 => hk.block k hk2.1) (fun k hk2 => ⟨Nat.lt_of_lt_of_le hk2.1 hk.size, hk2.2⟩) f _ _ hd⟩
theorem RowD.lie {B : Nat} {v : Value} {es : List (Dat × Option Addr × Nat)} {w : World} (h : RowD B v es w) (hlen : es.length ≤ 9223372036854775807) : ∃ a cap f, v = .slice a (es.map (·.1)).length cap ∧ (es.map (·.1)).length ≤ cap ∧ Dc (fun b => b < w.heap.size) w f a (es.map (·.1)) := by
 -- one depth for all
 have hfuel : ∃ F, ∀ e ∈ es, Dc (fun b => b < w.heap.size) w F e.2.1 e.1.kids := by
  have aux : ∀ (l : List (Dat × Option Addr × Nat)), (∀ e ∈ l, ∃ f, Dc (fun b => b < w.heap.size) w f e.2.1 e.1.kids) → ∃ F, ∀ e ∈ l, Dc (fun b => b < w.heap.size) w F e.2.1 e.1.kids := by
   intro l
   induction l with
   | nil => exact fun _ => ⟨0, by simp⟩
   | cons x r ih =>
    intro hx
    obtain ⟨F, hF⟩ := ih (fun e he => hx e (List.mem_cons_of_mem _ he))
    obtain ⟨f, hf⟩ := hx x (by simp)
    refine ⟨f + F, fun e he => ?_⟩
    rcases List.mem_cons.1 he with rfl | he
    ·exact hf.upto F
    ·have := (hF e he).upto f
     rwa [Nat.add_comm] at this
  refine aux es (fun e he => ?_)
  obtain ⟨_, _, f, hd⟩ := h.kids e he
  exact ⟨f, Dc.stay (fun _ _ => rfl) (fun k hk => hk.1) f _ _ hd⟩
 obtain ⟨F, hF⟩ := hfuel
 rcases h.own.2 with ⟨rfl, h0⟩ | ⟨g, cap, cur, rfl, hbg, hg, hnc, hcm, hcs, htake⟩
 ·have : es = [] := List.length_eq_zero_iff.1 h0
  subst this
  exact ⟨none, 0, 0, rfl, Nat.le_refl _, rfl⟩
 ·refine ⟨some ⟨g, 0, none⟩, cap, F + 1, by simp, by simpa using hnc, ?_⟩
  refine ⟨by simp; exact hlen, ?_⟩
  refine Or.inr ⟨g, 0, rfl, (Array.getElem?_eq_some_iff.1 hg).1, ?_⟩
  intro i d hd
  rw [List.getElem?_map] at hd
  obtain ⟨e, he, rfl⟩ := Option.map_eq_some_iff.1 hd
  have hmem : e ∈ es := List.mem_of_getElem? he
  have hcell : ∀ j u, (flat es)[j]? = some u → w.cell? ⟨g, j, none⟩ = some u := by
   intro j u hu
   have := h.own.cells (g := g) rfl j u hu
   have hadd : (⟨g, 0, none⟩ : Addr).add j = ⟨g, j, none⟩ := by unfold Addr.add; split <;> simp_all
   rwa [hadd] at this
  have hflat : ∀ k, k < 6 → (flat es)[i * 6 + k]? = [Value.int .i64 e.1.kind, .int .i64 e.1.n, .string e.1.name, .int .i64 e.1.stamp, .int .i64 e.1.lib, .slice e.2.1 e.1.kids.length e.2.2][k]? := by
   have aux : ∀ (l : List (Dat × Option Addr × Nat)) (i : Nat), l[i]? = some e → ∀ k, k < 6 → (flat l)[i * 6 + k]? = [Value.int .i64 e.1.kind, .int .i64 e.1.n, .string e.1.name, .int .i64 e.1.stamp, .int .i64 e.1.lib, .slice e.2.1 e.1.kids.length e.2.2][k]? := by
    intro l
    induction l with
    | nil => intro i hi; simp at hi
    | cons x r ih =>
     intro i hi k hk
     have e1 : flat (x :: r) = [Value.int .i64 x.1.kind, .int .i64 x.1.n, .string x.1.name, .int .i64 x.1.stamp, .int .i64 x.1.lib, .slice x.2.1 x.1.kids.length x.2.2] ++ flat r := by simp [flat]
     rw [e1]
     cases i with
     | zero =>
      simp at hi
      subst hi
      rw [List.getElem?_append_left (by simp; omega)]
      simp
     | succ i =>
      rw [List.getElem?_append_right (by simp; omega)]
      have := ih i (by simpa using hi) k hk
      rw [← this]
      congr 1
      simp
      omega
   exact aux es i he
  refine ⟨e.2.1, e.2.2, ?_, ?_, ?_, ?_, ?_, ?_, (h.kids e hmem).1, (h.kids e hmem).2.1, hF e hmem⟩
  all_goals rw [Nat.zero_add]
  ·exact hcell _ _ (hflat 0 (by decide))
  ·exact hcell _ _ (hflat 1 (by decide))
  ·exact hcell _ _ (hflat 2 (by decide))
  ·exact hcell _ _ (hflat 3 (by decide))
  ·exact hcell _ _ (hflat 4 (by decide))
  ·exact hcell _ _ (hflat 5 (by decide))

theorem RowD.lieG {B : Nat} {v : Value} {es : List (Dat × Option Addr × Nat)} {w : World} (h : RowD B v es w) (hlen : es.length ≤ 9223372036854775807) (ok : Nat → Prop) (hgo : ∀ g, v.ownBlock = some g → ok g) (hko : ∀ e ∈ es, ∃ f, Dc ok w f e.2.1 e.1.kids) : ∃ a cap f, v = .slice a (es.map (·.1)).length cap ∧ (es.map (·.1)).length ≤ cap ∧ Dc ok w f a (es.map (·.1)) := by
 -- one depth for all
 have hfuel : ∃ F, ∀ e ∈ es, Dc ok w F e.2.1 e.1.kids := by
  have aux : ∀ (l : List (Dat × Option Addr × Nat)), (∀ e ∈ l, ∃ f, Dc ok w f e.2.1 e.1.kids) → ∃ F, ∀ e ∈ l, Dc ok w F e.2.1 e.1.kids := by
   intro l
   induction l with
   | nil => exact fun _ => ⟨0, by simp⟩
   | cons x r ih =>
    intro hx
    obtain ⟨F, hF⟩ := ih (fun e he => hx e (List.mem_cons_of_mem _ he))
    obtain ⟨f, hf⟩ := hx x (by simp)
    refine ⟨f + F, fun e he => ?_⟩
    rcases List.mem_cons.1 he with rfl | he
    ·exact hf.upto F
    ·have := (hF e he).upto f
     rwa [Nat.add_comm] at this
  exact aux es hko
 obtain ⟨F, hF⟩ := hfuel
 rcases h.own.2 with ⟨rfl, h0⟩ | ⟨g, cap, cur, rfl, hbg, hg, hnc, hcm, hcs, htake⟩
 ·have : es = [] := List.length_eq_zero_iff.1 h0
  subst this
  exact ⟨none, 0, 0, rfl, Nat.le_refl _, rfl⟩
 ·refine ⟨some ⟨g, 0, none⟩, cap, F + 1, by simp, by simpa using hnc, ?_⟩
  refine ⟨by simp; exact hlen, ?_⟩
  refine Or.inr ⟨g, 0, rfl, hgo g rfl, ?_⟩
  intro i d hd
  rw [List.getElem?_map] at hd
  obtain ⟨e, he, rfl⟩ := Option.map_eq_some_iff.1 hd
  have hmem : e ∈ es := List.mem_of_getElem? he
  have hcell : ∀ j u, (flat es)[j]? = some u → w.cell? ⟨g, j, none⟩ = some u := by
   intro j u hu
   have := h.own.cells (g := g) rfl j u hu
   have hadd : (⟨g, 0, none⟩ : Addr).add j = ⟨g, j, none⟩ := by unfold Addr.add; split <;> simp_all
   rwa [hadd] at this
  have hflat : ∀ k, k < 6 → (flat es)[i * 6 + k]? = [Value.int .i64 e.1.kind, .int .i64 e.1.n, .string e.1.name, .int .i64 e.1.stamp, .int .i64 e.1.lib, .slice e.2.1 e.1.kids.length e.2.2][k]? := by
   have aux : ∀ (l : List (Dat × Option Addr × Nat)) (i : Nat), l[i]? = some e → ∀ k, k < 6 → (flat l)[i * 6 + k]? = [Value.int .i64 e.1.kind, .int .i64 e.1.n, .string e.1.name, .int .i64 e.1.stamp, .int .i64 e.1.lib, .slice e.2.1 e.1.kids.length e.2.2][k]? := by
    intro l
    induction l with
    | nil => intro i hi; simp at hi
    | cons x r ih =>
     intro i hi k hk
     have e1 : flat (x :: r) = [Value.int .i64 x.1.kind, .int .i64 x.1.n, .string x.1.name, .int .i64 x.1.stamp, .int .i64 x.1.lib, .slice x.2.1 x.1.kids.length x.2.2] ++ flat r := by simp [flat]
     rw [e1]
     cases i with
     | zero =>
      simp at hi
      subst hi
      rw [List.getElem?_append_left (by simp; omega)]
      simp
     | succ i =>
      rw [List.getElem?_append_right (by simp; omega)]
      have := ih i (by simpa using hi) k hk
      rw [← this]
      congr 1
      simp
      omega
   exact aux es i he
  refine ⟨e.2.1, e.2.2, ?_, ?_, ?_, ?_, ?_, ?_, (h.kids e hmem).1, (h.kids e hmem).2.1, hF e hmem⟩
  all_goals rw [Nat.zero_add]
  ·exact hcell _ _ (hflat 0 (by decide))
  ·exact hcell _ _ (hflat 1 (by decide))
  ·exact hcell _ _ (hflat 2 (by decide))
  ·exact hcell _ _ (hflat 3 (by decide))
  ·exact hcell _ _ (hflat 4 (by decide))
  ·exact hcell _ _ (hflat 5 (by decide))

theorem flat_atD (e : Dat × Option Addr × Nat) : ∀ (l : List (Dat × Option Addr × Nat)) (i : Nat), l[i]? = some e → ∀ k, k < 6 → (flat l)[i * 6 + k]? = [Value.int .i64 e.1.kind, .int .i64 e.1.n, .string e.1.name, .int .i64 e.1.stamp, .int .i64 e.1.lib, .slice e.2.1 e.1.kids.length e.2.2][k]? := by
 intro l
 induction l with
 | nil => intro i hi; simp at hi
 | cons x r ih =>
  intro i hi k hk
  have e1 : flat (x :: r) = [Value.int .i64 x.1.kind, .int .i64 x.1.n, .string x.1.name, .int .i64 x.1.stamp, .int .i64 x.1.lib, .slice x.2.1 x.1.kids.length x.2.2] ++ flat r := by simp [flat]
  rw [e1]
  cases i with
  | zero =>
   simp at hi
   subst hi
   rw [List.getElem?_append_left (by simp; omega)]
   simp
  | succ i =>
   rw [List.getElem?_append_right (by simp; omega)]
   have := ih i (by simpa using hi) k hk
   rw [show (i + 1) * 6 + k - [Value.int .i64 x.1.kind, .int .i64 x.1.n, .string x.1.name, .int .i64 x.1.stamp, .int .i64 x.1.lib, .slice x.2.1 x.1.kids.length x.2.2].length = i * 6 + k by simp; omega]
   exact this

def ToldO (d : Dat) (w : World) (e : Ending) (w' : World) : Prop :=
 Below w.heap.size w w' ∧ ∃ a cap f, e = .returned (dv d a cap) ∧ d.kids.length ≤ cap ∧ Dc (New w w') w' f a d.kids

theorem ret40 {ts : Array Value} {W : World} {R : Nat} {d : Dat} {v : Value} (h : Nod R d v W) (h6 : ts[2]? = some (.pointer (some ⟨R, 0, none⟩))) :
  (results Tryz.f40 ts).run Tryz.prog W = .ok (.agg #[.int .i64 d.kind, .int .i64 d.n, .string d.name, .int .i64 d.stamp, .int .i64 d.lib, v]) W := by
 obtain ⟨q, q0, q1, q2, q3, q4, q5, qz⟩ := h
 simp [results, Tryz.results40, go_sem, h6, q0, q1, q2, q3, q4, q5]
set_option maxRecDepth 100000 in
set_option maxHeartbeats 1600000 in
theorem one40_any (s : ByteArray) (d : Dat) (hs : s.size ≤ maxLen) (hr : readL s.data.toList = .inr [d]) (w : World) : Calls Tryz.prog 40 #[.string s] w (ToldO d w) := by
 have RD : Hid (∀ W, Calls Tryz.prog 17 #[.string s] W (OutR (.inr [d]) W)) := fun W => by
  have := Read_any s W hs
  rw [hr] at this
  exact this
 have N0 : Hid (Nod w.heap.size ⟨0, 0, ⟨#[]⟩, 0, 0, []⟩ (.slice none 0 0) _) := Nod.made w ⟨0, 0, ⟨#[]⟩, 0, 0, []⟩ (.slice none 0 0)
 go_enter Tryz.func40, Tryz.ntmps40
 go_wp2_with fail
 refine (RD.out _).mono ?_
 rintro e w1 ⟨hb1, a1, cap1, f1, rfl, hdw⟩
 have hN1 := N0.out.after hb1
 have hsz : w.heap.size + 1 ≤ w1.heap.size := by have := hb1.size; simpa using this
 have HB : Hid (Below w.heap.size w w1) := ((Below.refl _ _).alloc (Nat.le_refl _) _).trans (hb1.mono (by simp))
 have hdc := Dw.dc _ _ _ _ hdw
 obtain ⟨f', b, o, rfl, rfl, hbB, hall⟩ : ∃ f' b o, f1 = f' + 1 ∧ a1 = some ⟨b, o, none⟩ ∧ New (w.alloc (.cells #[.int .i64 0, .int .i64 0, .string ⟨#[]⟩, .int .i64 0, .int .i64 0, .slice none 0 0] 26)) w1 b ∧ ∀ (i : Nat) (x : Dat), [d][i]? = some x → ∃ a' cap, w1.cell? ⟨b, o + i * 6, none⟩ = some (.int .i64 x.kind) ∧ w1.cell? ⟨b, o + i * 6 + 1, none⟩ = some (.int .i64 x.n) ∧ w1.cell? ⟨b, o + i * 6 + 2, none⟩ = some (.string x.name) ∧
   w1.cell? ⟨b, o + i * 6 + 3, none⟩ = some (.int .i64 x.stamp) ∧ w1.cell? ⟨b, o + i * 6 + 4, none⟩ = some (.int .i64 x.lib) ∧ w1.cell? ⟨b, o + i * 6 + 5, none⟩ = some (.slice a' x.kids.length cap) ∧
   x.name.size ≤ maxLen ∧ x.kids.length ≤ cap ∧ Dc (New (w.alloc (.cells #[.int .i64 0, .int .i64 0, .string ⟨#[]⟩, .int .i64 0, .int .i64 0, .slice none 0 0] 26)) w1) w1 f' a' x.kids := by
  cases f1 with
  | zero => cases hdc
  | succ f' =>
   obtain ⟨_, h | ⟨b, o, h1, h2, h3⟩⟩ := hdc
   ·cases h
   ·exact ⟨f', b, o, rfl, h1, h2, h3⟩
 obtain ⟨a', cap', c0, c1, c2, c3, c4, c5, hn, hc, hk⟩ := hall 0 d rfl
 have HK : Hid (d.kids.length ≤ cap' ∧ Dc (New (w.alloc (.cells #[.int .i64 0, .int .i64 0, .string ⟨#[]⟩, .int .i64 0, .int .i64 0, .slice none 0 0] 26)) w1) w1 f' a' d.kids) := ⟨hc, hk⟩
 have W2 : Hid (∀ q, (w1.alloc (.cells #[.int .i64 0, .int .i64 0] 40)).cell? ⟨b, q, none⟩ = w1.cell? ⟨b, q, none⟩) := fun q => ((Below.refl _ _).alloc (Nat.le_refl _) _ : Below w1.heap.size w1 (w1.alloc (.cells #[.int .i64 0, .int .i64 0] 40))).cell (p := ⟨b, q, none⟩) hbB.2
 have NW : Hid (Nod w.heap.size ⟨0, 0, ⟨#[]⟩, 0, 0, []⟩ (.slice none 0 0) (w1.alloc (.cells #[.int .i64 0, .int .i64 0] 40))) := hN1.alloc _
 simp only [Nat.zero_mul, Nat.add_zero] at c0 c1 c2 c3 c4 c5
 have k0 := (W2.out _).trans c0
 have k1 := (W2.out _).trans c1
 have k2 := (W2.out _).trans c2
 have k3 := (W2.out _).trans c3
 have k4 := (W2.out _).trans c4
 have k5 := (W2.out _).trans c5
 obtain ⟨q, q0, q1, q2, q3, q4, q5, qz⟩ := NW.out
 simp only at q0 q1 q2 q3 q4 q5
 clear hall hdc hdw hb1 hN1 hc hk hn c0 c1 c2 c3 c4 c5
 unfold fv
 go_wp2_with fail
 refine bodyPost_ret (ret40 (NW.out.store d (.slice a' d.kids.length cap')) rfl) rfl ?_
 have hh := six_heap (w1.alloc (.cells #[.int .i64 0, .int .i64 0] 40)) w.heap.size (.int .i64 d.kind) (.int .i64 d.n) (.string d.name) (.int .i64 d.stamp) (.int .i64 d.lib) (.slice a' d.kids.length cap')
 refine ⟨?_, a', cap', f', rfl, HK.out.1, ?_⟩
 ·have h1 : Below w.heap.size w (w1.alloc (.cells #[.int .i64 0, .int .i64 0] 40)) := HB.out.alloc (by omega) _
  exact (((((h1.setCell (p := ⟨w.heap.size, 0, none⟩) (Nat.le_refl _) _).setCell (p := ⟨w.heap.size, 1, none⟩) (Nat.le_refl _) _).setCell (p := ⟨w.heap.size, 2, none⟩) (Nat.le_refl _) _).setCell (p := ⟨w.heap.size, 3, none⟩) (Nat.le_refl _) _).setCell (p := ⟨w.heap.size, 4, none⟩) (Nat.le_refl _) _).setCell (p := ⟨w.heap.size, 5, none⟩) (Nat.le_refl _) _
 ·refine Dc.stay (fun k hk => ?_) (fun k hk => ⟨?_, ?_⟩) f' _ _ HK.out.2
  ·have h1 := hk.1
   simp at h1
   exact (hh.1 k (by omega)).trans (Below.heap_alloc _ _ _ hk.2)
  ·have h1 := hk.1
   simp at h1
   omega
  ·rw [hh.2]
   simp
   have := hk.2
   omega
end
section
open Go.RowKit

def alT : ByteArray := ⟨#[40, 108, 105, 98, 114, 97, 114, 121, 32, 40, 97, 32, 98, 41, 32, 40, 101, 120, 112, 111, 114, 116, 32, 120, 41, 32, 40, 105, 110, 99, 108, 117, 100, 101, 32, 102, 41, 41]⟩
def alF : ByteArray := ⟨#[40, 100, 101, 102, 105, 110, 101, 32, 120, 32, 49, 41]⟩
def alD : Dat := liD [syD ⟨#[108, 105, 98, 114, 97, 114, 121]⟩, liD [syD ⟨#[97]⟩, syD ⟨#[98]⟩], liD [syD ⟨#[101, 120, 112, 111, 114, 116]⟩, syD ⟨#[120]⟩], liD [syD ⟨#[105, 110, 99, 108, 117, 100, 101]⟩, syD ⟨#[102]⟩]]
def alE : Env := ⟨[(⟨#[102]⟩, alF)], [], []⟩
def alS : LibS := ⟨⟨#[97, 32, 98]⟩, [(⟨#[120]⟩, ⟨#[120]⟩)], [], [liD [syD ⟨#[100, 101, 102, 105, 110, 101]⟩, syD ⟨#[120]⟩, ⟨1, 1, ⟨#[]⟩, 0, 0, []⟩]]⟩
theorem alRead : readL alT.data.toList = .inr [alD] := by kernel_rfl
theorem alParse : parseF alE alD = .ok alS := by kernel_rfl
set_option maxRecDepth 100000 in
set_option maxHeartbeats 3200000 in
theorem alive_any (w : World) (ht : TabW w) (h0 : 0 < w.heap.size) : Calls Tryz.prog 12 #[] w fun e w' => e = .returned (.bool true) ∧ Below w.heap.size w w' := by
 obtain ⟨W1, hW1⟩ : ∃ W1, W1 = w.alloc (.cells #[.string ⟨#[102]⟩, .string alF] 49) := ⟨_, rfl⟩
 have b1 : Below w.heap.size w W1 := by rw [hW1]; exact (Below.refl _ _).alloc (Nat.le_refl _) _
 have f1 : W1.heap[w.heap.size]? = some (.cells #[.string ⟨#[102]⟩, .string alF] 49 (0, 0)) := by rw [hW1]; exact World.alloc_heap_new w _
 have O1 : Hid (∀ W, Calls Tryz.prog 40 #[.string alT] W (ToldO alD W)) := fun W => one40_any _ _ (by decide) alRead W
 have HB : Hid (Below w.heap.size w W1) := b1
 have HF : Hid (∀ W, Below W1.heap.size W1 W → EnvW W.heap.size alE (.slice (some ⟨w.heap.size, 0, none⟩) 1 1) (.slice none 0 0) (.slice none 0 0) W) := fun W hb => by
  have hl := (Array.getElem?_eq_some_iff.1 f1).1
  have g := (hb.block _ hl).trans f1
  have c0 : W.cell? ⟨w.heap.size, 0, none⟩ = some _ := (cellO g).trans rfl
  have c1 : W.cell? ⟨w.heap.size, 1, none⟩ = some _ := (cellO g).trans rfl
  refine ⟨⟨_, 1, rfl, Or.inr ⟨w.heap.size, 0, rfl, Nat.lt_of_lt_of_le hl hb.size, fun j p hj => ?_⟩⟩, SV.nil _ _, SV.nil _ _, by decide, by decide, by decide⟩
  match j, hj with
  | 0, hj =>
   obtain rfl := Option.some.inj hj
   exact ⟨c0, c1, by decide⟩
  | j + 1, hj => simp [alE] at hj
 have HT : Hid (TabW w ∧ 0 < w.heap.size) := ⟨ht, h0⟩
 have HW := hidd hW1.symm
 clear b1 f1 hW1 ht h0
 go_enter Tryz.func12, Tryz.ntmps12
 go_wp2_with fail
 show Calls Tryz.prog 40 #[.string alT] (w.alloc (.cells #[.string ⟨#[102]⟩, .string alF] 49)) _
 rw [HW.out]
 refine (O1.out _).mono ?_
 rintro e w2 ⟨hb2, da, dc, df, rfl, hdc, hdd⟩
 have PA := hidd (Parse_any w2.heap.size df alE (.slice (some ⟨w.heap.size, 0, none⟩) 1 1) (.slice none 0 0) (.slice none 0 0) alD da dc w2 (Nat.le_refl _) (Nat.lt_of_lt_of_le HT.out.2 (Nat.le_trans HB.out.size hb2.size)) (HF.out _ hb2) (HT.out.1.below (HB.out.trans (hb2.mono HB.out.size)) HT.out.2) (Dn.of hdd) hdc (by decide))
 rw [alParse] at PA
 have HB2 : Hid (Below w.heap.size w w2) := HB.out.trans (hb2.mono HB.out.size)
 clear hb2 hdc hdd HW HF O1 HB HT
 go_wp2_with fail
 refine PA.out.mono ?_
 rintro e w3 ⟨hb3, ev, iv, bv, rfl, hm⟩
 obtain ⟨ea, ec, rfl, _⟩ := hm.ex
 obtain ⟨ia, in_, ic, rfl⟩ := SeL.slice hm.im
 obtain ⟨ba, bc, bf, rfl, _⟩ := hm.bo
 have HB3 : Hid (Below w.heap.size w w3) := HB2.out.trans (hb3.mono HB2.out.size)
 clear hb3 hm HB2 PA
 unfold alS
 simp only [List.length_cons, List.length_nil]
 go_wp2_with fail
 go_ret
 exact ⟨rfl, HB3.out.alloc HB3.out.size _⟩
end
section
open Go.RowKit

theorem namesF_lenG : ∀ (l : List Dat) (ns : List ByteArray), namesF l = .ok ns → ns.length = l.length
 | [], ns, h => by rw [namesF] at h; cases h; rfl
 | d :: r, ns, h => by
  rw [namesF] at h
  cases hn : nameF d with
  | no x => rw [hn] at h; cases h
  | ok n =>
   rw [hn] at h
   cases hr : namesF r with
   | no x => simp only [Er.bind, hr] at h; cases h
   | ok l' =>
    simp only [Er.bind, hr] at h
    cases h
    simp [namesF_lenG r l' hr]
theorem renamesF_lenG : ∀ (l : List Dat) (q : List ByteArray × List ByteArray), renamesF l = .ok q → q.1.length = l.length ∧ q.2.length = l.length
 | [], q, h => by rw [renamesF] at h; cases h; exact ⟨rfl, rfl⟩
 | d :: r, q, h => by
  rw [renamesF] at h
  cases hn : justF d 2 with
  | no x => rw [hn] at h; cases h
  | ok n =>
   rw [hn] at h
   cases hr : renamesF r with
   | no x => simp only [Er.bind, hr] at h; cases h
   | ok l' =>
    simp only [Er.bind, hr] at h
    cases h
    have := renamesF_lenG r l' hr
    simp [this.1, this.2]
theorem setF_se : ∀ (n : Nat) (d : Dat) (x : Se), okD d → setF n d = .ok x → seOk x
 | 0, d, x, _, h => by rw [setF] at h; cases h
 | n + 1, d, x, ho, h => by
  rw [setF] at h
  unfold thingsF at h
  split at h
  ·rename_i hk
   have hl := okD_list ho hk.1
   simp only [Er.bind] at h
   have hdl : (d.kids.drop 2).length ≤ 2000 := by rw [List.length_drop]; omega
   split at h
   ·cases hc : calledF d with
    | no z => rw [hc] at h; cases h
    | ok nm =>
     rw [hc] at h
     cases h
     rw [seOk, seOkL]
     simp
   ·have hod : okD (d.kids.getD 1 d) := by
     rw [List.getD_eq_getElem?_getD]
     cases hg : d.kids[1]? with
     | none => exact ho
     | some y => exact okL_mem hl.2 _ (List.mem_of_getElem? hg)
    cases hs : setF n (d.kids.getD 1 d) with
    | no z => rw [hs] at h; cases h
    | ok k =>
     have hk1 := setF_se n _ k hod hs
     have hkl : seOkL [k] := by rw [seOkL, seOkL]; exact ⟨hk1, trivial⟩
     rw [hs] at h
     simp only at h
     split at h
     ·cases hn : namesF (d.kids.drop 2) with
      | no z => rw [hn] at h; cases h
      | ok ns =>
       rw [hn] at h
       cases h
       have := namesF_lenG _ _ hn
       rw [seOk]
       exact ⟨by omega, by simp, by simp, hkl⟩
     ·split at h
      ·cases hn : oneF (d.kids.drop 2) with
       | no z => rw [hn] at h; cases h
       | ok y =>
        rw [hn] at h
        simp only at h
        cases hm : nameF y with
        | no z => rw [hm] at h; cases h
        | ok p =>
         rw [hm] at h
         cases h
         rw [seOk]
         exact ⟨by simp, by simp, by simp, hkl⟩
      ·split at h
       ·cases hn : renamesF (d.kids.drop 2) with
        | no z => rw [hn] at h; cases h
        | ok q =>
         rw [hn] at h
         cases h
         have := renamesF_lenG _ _ hn
         rw [seOk]
         exact ⟨by omega, by omega, by simp, hkl⟩
       ·cases h
        rw [seOk]
        exact ⟨by simp, by simp, by simp, hkl⟩
  ·cases h
theorem seOkL_append : ∀ {a b : List Se}, seOkL a → seOkL b → seOkL (a ++ b)
 | [], b, _, hb => hb
 | x :: r, b, ha, hb => by
  rw [seOkL] at ha
  rw [List.cons_append, seOkL]
  exact ⟨ha.1, seOkL_append ha.2 hb⟩
theorem exportsF_se : ∀ (a : List Dat) (s s' : LibS), exportsF a s = .ok s' → s'.imports = s.imports
 | [], s, s', h => by rw [exportsF] at h; cases h; rfl
 | d :: r, s, s', h => by
  rw [exportsF] at h
  cases he : exportF d with
  | no x => rw [he] at h; cases h
  | ok e =>
   rw [he] at h
   simp only [Er.bind] at h
   split at h
   ·cases h
   ·split at h
    ·have := exportsF_se r { s with exports := s.exports ++ [e] } s' h
     exact this
    ·cases h
theorem importsF_se : ∀ (a : List Dat) (s s' : LibS), okL a → seOkL s.imports → importsF a s = .ok s' → seOkL s'.imports
 | [], s, s', _, hi, h => by rw [importsF] at h; cases h; exact hi
 | d :: r, s, s', ho, hi, h => by
  rw [okL] at ho
  rw [importsF] at h
  split at h
  ·cases he : setF 12 d with
   | no x => rw [he] at h; cases h
   | ok e =>
    rw [he] at h
    exact importsF_se r { s with imports := s.imports ++ [e] } s' ho.2 (seOkL_append hi (by rw [seOkL, seOkL]; exact ⟨setF_se 12 d e ho.1 he, trivial⟩)) h
  ·cases h
theorem addF_se {l : List Dat} {s s' : LibS} (h : addF l s = .ok s') : s'.imports = s.imports := by
 unfold addF at h
 split at h
 ·cases h; rfl
 ·cases h
theorem includeF_se (E : Env) : ∀ (a : List Dat) (s s' : LibS), includeF E a s = .ok s' → s'.imports = s.imports
 | [], s, s', h => by rw [includeF] at h; cases h; rfl
 | d :: r, s, s', h => by
  rw [includeF] at h
  cases he : nameF d with
  | no x => rw [he] at h; cases h
  | ok n =>
   rw [he] at h
   simp only [Er.bind] at h
   split at h
   ·cases h
   ·split at h
    ·cases h
    ·rename_i ds _
     cases ha : addF ds s with
     | no x => rw [ha] at h; cases h
     | ok s2 =>
      rw [ha] at h
      exact (includeF_se E r s2 s' h).trans (addF_se ha)
mutual
theorem declD_se (E : Env) : ∀ (d : Dat) (s s' : LibS), okD d → seOkL s.imports → declD E d s = .ok s' → seOkL s'.imports
 | ⟨k, n, nm, st, lb, ks⟩, s, s', ho, hi, h => by
  rw [declD] at h
  split at h
  ·rename_i hk
   exact declK_se E ks s s' (okD_list ho hk).2 hi h
  ·cases h
theorem declK_se (E : Env) : ∀ (l : List Dat) (s s' : LibS), okL l → seOkL s.imports → declK E l s = .ok s' → seOkL s'.imports
 | [], s, s', _, hi, h => by rw [declK] at h; cases h
 | x :: r, s, s', ho, hi, h => by
  rw [okL] at ho
  have hC := declC_se E r s s' ho.2 hi
  rw [declK] at h
  split at h
  ·split at h
   ·split at h
    ·cases h
    ·rw [exportsF_se r s s' h]; exact hi
   ·split at h
    ·exact importsF_se r s s' ho.2 hi h
    ·split at h
     ·rw [addF_se h]; exact hi
     ·split at h
      ·rw [includeF_se E r s s' h]; exact hi
      ·split at h
       ·exact hC h
       ·cases h
  ·cases h
theorem declL_se (E : Env) : ∀ (l : List Dat) (s s' : LibS), okL l → seOkL s.imports → declL E l s = .ok s' → seOkL s'.imports
 | [], s, s', _, hi, h => by rw [declL] at h; cases h; exact hi
 | d :: r, s, s', ho, hi, h => by
  rw [okL] at ho
  rw [declL] at h
  cases hd : declD E d s with
  | no x => rw [hd] at h; cases h
  | ok s2 =>
   rw [hd] at h
   exact declL_se E r s2 s' ho.2 (declD_se E d s s2 ho.1 hi hd) h
theorem declC_se (E : Env) : ∀ (l : List Dat) (s s' : LibS), okL l → seOkL s.imports → declC E l s = .ok s' → seOkL s'.imports
 | [], s, s', _, hi, h => by rw [declC] at h; cases h; exact hi
 | c :: r, s, s', ho, hi, h => by
  rw [okL] at ho
  rw [declC] at h
  exact declB_se E c _ (fun s s' hi h => declC_se E r s s' ho.2 hi h) s s' ho.1 hi h
theorem declB_se (E : Env) : ∀ (d : Dat) (k : LibS → Er LibS) (hk : ∀ s s', seOkL s.imports → k s = .ok s' → seOkL s'.imports) (s s' : LibS), okD d → seOkL s.imports → declB E d k s = .ok s' → seOkL s'.imports
 | ⟨k0, n, nm, st, lb, ks⟩, k, hk, s, s', ho, hi, h => by
  rw [declB] at h
  split at h
  ·rename_i h4
   exact declT_se E ks k hk s s' (okD_list ho h4).2 hi h
  ·cases h
theorem declT_se (E : Env) : ∀ (l : List Dat) (k : LibS → Er LibS) (hk : ∀ s s', seOkL s.imports → k s = .ok s' → seOkL s'.imports) (s s' : LibS), okL l → seOkL s.imports → declT E l k s = .ok s' → seOkL s'.imports
 | [], k, hk, s, s', _, hi, h => by rw [declT] at h; cases h
 | x :: t, k, hk, s, s', ho, hi, h => by
  rw [okL] at ho
  have h1 := declL_se E t s s' ho.2 hi
  rw [declT] at h
  cases hc : clauseF E x with
  | no z => rw [hc] at h; cases h
  | ok b =>
   rw [hc] at h
   cases b with
   | true => exact h1 h
   | false => exact hk s s' hi h
end
theorem parseF_much (E : Env) (d : Dat) (s : LibS) (h : parseF E d = .ok s) : Inv s ∧ seOkL s.imports := by
 unfold parseF at h
 split at h
 ·rename_i h0
  rw [wrong_first] at h0
  have ho := okD_chk 40 d 0 (Nat.zero_le _) h0
  split at h
  ·unfold allF at h
   cases hf : formF d with
   | no z => rw [hf] at h; cases h
   | ok f =>
    rw [hf] at h
    simp only [Er.bind] at h
    have hfo : okL f.2 := by
     unfold formF thingsF at hf
     split at hf
     ·rename_i h4
      have := (okD_list ho h4.1).2
      simp only [Er.bind] at hf
      cases hd : d.kids with
      | nil => exact absurd hd h4.2
      | cons x r =>
       rw [hd] at hf this
       rw [okL] at this
       rw [headF] at hf
       cases hn : nameF x with
       | no z => rw [hn] at hf; cases hf
       | ok n => rw [hn] at hf; cases hf; exact this.2
     ·cases hf
    split at h
    ·cases hr : f.2 with
     | nil => rw [hr] at h; cases h
     | cons x r =>
      rw [hr] at h hfo
      rw [okL] at hfo
      simp only at h
      cases hc : calledF x with
      | no z => rw [hc] at h; cases h
      | ok n =>
       rw [hc] at h
       exact ⟨(declL_inv E r { lib0 with name := n } s ⟨by simp [lib0], by simp [lib0], by simp [lib0]⟩ h).1, declL_se E r { lib0 with name := n } s hfo.2 (by simp [lib0, seOkL]) h⟩
    ·split at h
     ·exact ⟨(declL_inv E f.2 lib0 s ⟨by simp [lib0], by simp [lib0], by simp [lib0]⟩ h).1, declL_se E f.2 lib0 s hfo (by simp [lib0, seOkL]) h⟩
     ·cases h
  ·cases h
 ·cases h
end
section
open Go.RowKit

theorem RowD.made (W : World) (es : List (Dat × Option Addr × Nat)) (hl : es.length ≤ maxLen) (h : ∀ e ∈ es, e.1.name.size ≤ maxLen ∧ e.1.kids.length ≤ e.2.2 ∧ ∃ f, Dn W f e.2.1 e.1.kids) :
  RowD W.heap.size (.slice (some ⟨W.heap.size, 0, none⟩) es.length es.length) es (W.alloc (.cells (flat es).toArray 26)) := by
 refine ⟨⟨flat_len es, Or.inr ⟨W.heap.size, es.length, _, rfl, Nat.le_refl _, World.alloc_heap_new W _, Nat.le_refl _, hl, by simp [flat_len], ?_⟩⟩, fun e he => ?_⟩
 ·rw [← flat_len es]
  simp
 ·obtain ⟨h1, h2, f, h3⟩ := h e he
  refine ⟨h1, h2, f, Dc.stay (fun k hk => Below.heap_alloc _ _ _ hk) (fun k hk => ⟨by simp; omega, fun e => ?_⟩) _ _ _ h3⟩
  have := Option.some.inj e
  simp only at this
  omega
def ToldN (d : Dat) (w : World) (e : Ending) (w' : World) : Prop := Below w.heap.size w w' ∧ ∃ a cap f, e = .returned (dv d a cap) ∧ d.kids.length ≤ cap ∧ Dn w' f a d.kids
end
section
open Go.RowKit

def libOf : Er LibS → LibS
 | .ok s => s
 | .no _ => lib0
def errOf : Er LibS → Int
 | .ok _ => 0
 | .no x => x
def ToldQ (r : Er LibS) (w : World) (e : Ending) (w' : World) : Prop := Below w.heap.size w w' ∧ ∃ ea nx ec ia ni ic ba nb bc, e = .returned (.tuple #[.agg #[.string (libOf r).name, .slice ea nx ec, .slice ia ni ic, .slice ba nb bc], .int .i64 (errOf r)]) ∧ LibM (fun k => w.heap.size ≤ k ∧ k < w'.heap.size) (libOf r) (.slice ea nx ec) (.slice ia ni ic) (.slice ba nb bc) w'
theorem lib0M (ok : Nat → Prop) (w : World) : LibM ok lib0 (.slice none 0 0) (.slice none 0 0) (.slice none 0 0) w :=
 ⟨⟨none, 0, rfl, Nat.le_refl _, Or.inl rfl⟩, .none none 0, ⟨none, 0, 0, rfl, Nat.le_refl _, rfl⟩⟩
theorem ToldA.q {r : Er LibS} {w w' : World} {e : Ending} (h : ToldA r w e w') : ToldQ r w e w' := by
 obtain ⟨hb, h⟩ := h
 refine ⟨hb, ?_⟩
 cases r with
 | ok s =>
  obtain ⟨ev, iv, bv, rfl, hm⟩ := h
  obtain ⟨ea, ec, rfl, _⟩ := hm.ex
  obtain ⟨ia, ni, ic, rfl⟩ := SeL.slice hm.im
  obtain ⟨ba, bc, bf, rfl, _⟩ := hm.bo
  exact ⟨_, _, _, _, _, _, _, _, _, rfl, hm⟩
 | no x => exact ⟨_, _, _, _, _, _, _, _, _, h, lib0M _ _⟩
theorem EnvW.grow {A B : Nat} {E : Env} {f1 f2 f3 : Value} {w : World} (h : EnvW A E f1 f2 f3 w) (hA : A ≤ B) : EnvW B E f1 f2 f3 w :=
 ⟨h.fl.stay (fun _ _ => rfl) (fun _ hk => Nat.lt_of_lt_of_le hk hA), h.fe.stay (fun _ _ => rfl) (fun _ hk => Nat.lt_of_lt_of_le hk hA), h.li.stay (fun _ _ => rfl) (fun _ hk => Nat.lt_of_lt_of_le hk hA), h.flL, h.feL, h.liL⟩
end
section
open Go.RowKit

theorem lib0_much : Inv lib0 ∧ seOkL lib0.imports := ⟨⟨by simp [lib0], by simp [lib0], by simp [lib0]⟩, by simp [lib0, seOkL]⟩
theorem libOf_much (E : Env) (d : Dat) : Inv (libOf (parseF E d)) ∧ seOkL (libOf (parseF E d)).imports := by
 cases h : parseF E d with
 | ok s => exact parseF_much E d s h
 | no x => exact lib0_much
end
section
open Go.RowKit

theorem Dc.atX {ok : Nat → Prop} {w : World} {f : Nat} {a : Option Addr} {ds : List Dat} (h : Dc ok w f a ds) (h0 : ds ≠ []) : ∃ f' b o, f = f' + 1 ∧ a = some ⟨b, o, none⟩ ∧ ok b ∧ ∀ (i : Nat) (d : Dat), ds[i]? = some d → ∃ a' cap,
   w.cell? ⟨b, o + i * 6, none⟩ = some (.int .i64 d.kind) ∧ w.cell? ⟨b, o + i * 6 + 1, none⟩ = some (.int .i64 d.n) ∧ w.cell? ⟨b, o + i * 6 + 2, none⟩ = some (.string d.name) ∧
   w.cell? ⟨b, o + i * 6 + 3, none⟩ = some (.int .i64 d.stamp) ∧ w.cell? ⟨b, o + i * 6 + 4, none⟩ = some (.int .i64 d.lib) ∧ w.cell? ⟨b, o + i * 6 + 5, none⟩ = some (.slice a' d.kids.length cap) ∧
   d.name.size ≤ maxLen ∧ d.kids.length ≤ cap ∧ Dc ok w f' a' d.kids := by
 cases f with
 | zero => exact absurd h h0
 | succ f =>
  obtain ⟨_, h | ⟨b, o, h1, h2, h3⟩⟩ := h
  ·exact absurd h h0
  ·exact ⟨f, b, o, rfl, h1, h2, h3⟩

theorem Dc.entsX {ok : Nat → Prop} {w : World} {f : Nat} {a : Option Addr} {l : List Dat} (h : Dc ok w f a l) (h0 : l ≠ []) : ∃ f' b o es, a = some ⟨b, o, none⟩ ∧ ok b ∧ es.map (·.1) = l ∧ (∀ j u, (flat es)[j]? = some u → w.cell? ⟨b, o + j, none⟩ = some u) ∧ ∀ e ∈ es, e.1.name.size ≤ maxLen ∧ e.1.kids.length ≤ e.2.2 ∧ Dc ok w f' e.2.1 e.1.kids := by
 obtain ⟨f', b, o, rfl, rfl, hb, hall⟩ := h.atX h0
 obtain ⟨es, hl, hes⟩ := pick_list (α := Dat × Option Addr × Nat) (fun i e => l[i]? = some e.1 ∧ (∀ k, k < 6 → w.cell? ⟨b, o + i * 6 + k, none⟩ = [Value.int .i64 e.1.kind, .int .i64 e.1.n, .string e.1.name, .int .i64 e.1.stamp, .int .i64 e.1.lib, .slice e.2.1 e.1.kids.length e.2.2][k]?) ∧ e.1.name.size ≤ maxLen ∧ e.1.kids.length ≤ e.2.2 ∧ Dc ok w f' e.2.1 e.1.kids) l.length (fun i hi => by
  obtain ⟨a', cap, k0, k1, k2, k3, k4, k5, hn, hc, hk⟩ := hall i l[i] (List.getElem?_eq_getElem hi)
  refine ⟨(l[i], a', cap), List.getElem?_eq_getElem hi, ?_, hn, hc, hk⟩
  intro k hk
  match k, hk with
  | 0, _ => simpa using k0
  | 1, _ => simpa using k1
  | 2, _ => simpa using k2
  | 3, _ => simpa using k3
  | 4, _ => simpa using k4
  | 5, _ => simpa using k5)
 refine ⟨f', b, o, es, rfl, hb, ?_, ?_, ?_⟩
 ·apply List.ext_getElem?
  intro i
  rw [List.getElem?_map]
  cases he : es[i]? with
  | none =>
   have : l.length ≤ i := by rw [← hl]; exact List.getElem?_eq_none_iff.1 he
   rw [List.getElem?_eq_none this]
   rfl
  | some e => exact (hes i e he).1.symm
 ·intro j u hu
  have hj : j < es.length * 6 := by
   have := (List.getElem?_eq_some_iff.1 hu).1
   rwa [flat_len] at this
  have hi : j / 6 < es.length := by omega
  have he := hes (j / 6) es[j / 6] (List.getElem?_eq_getElem hi)
  have hk := he.2.1 (j % 6) (by omega)
  have hf := flat_atD es[j / 6] es (j / 6) (List.getElem?_eq_getElem hi) (j % 6) (by omega)
  rw [show j / 6 * 6 + j % 6 = j by omega, hu] at hf
  rw [show o + j / 6 * 6 + j % 6 = o + j by omega, ← hf] at hk
  exact hk
 ·intro e he
  obtain ⟨i, hi⟩ := List.getElem?_of_mem he
  exact (hes i e hi).2.2

def ToldX (ok : Nat → Prop) (d : Dat) (w : World) (e : Ending) (w' : World) : Prop := Below w.heap.size w w' ∧ ∃ a cap f, e = .returned (dv d a cap) ∧ d.kids.length ≤ cap ∧ Dc (fun k => ok k ∨ (w.heap.size ≤ k ∧ k < w'.heap.size)) w' f a d.kids
end
end Go.Proofs.YtonafbennobgdaaGreatDoor
