/- Chapter 3's laws: data read, made, appended. -/
import Derived.Deep.AppendLies
import Derived.Deep.CutRange
import Derived.Test.YtonafbennobgdaaGreatDoorK02
import Derived.Test.YtonafbennobgdaaGreatDoorK14
import Derived.Test.YtonafbennobgdaaGreatDoorK16
import Derived.Test.YtonafbennobgdaaGreatDoorK27
import Derived.Test.YtonafbennobgdaaGreatDoorK29
import Derived.Test.YtonafbennobgdaaGreatDoorK32
namespace Go.Proofs.YtonafbennobgdaaGreatDoor
set_option linter.unusedVariables false
set_option linter.unusedSimpArgs false
open Go.RowKit
theorem pick_list {α : Type} (p : Nat → α → Prop) : ∀ (n : Nat), (∀ i, i < n → ∃ x, p i x) → ∃ l : List α, l.length = n ∧ ∀ i x, l[i]? = some x → p i x
 | 0, _ => ⟨[], rfl, by simp⟩
 | n + 1, h => by
  obtain ⟨l, hl, hp⟩ := pick_list p n (fun i hi => h i (by omega))
  obtain ⟨x, hx⟩ := h n (by omega)
  refine ⟨l ++ [x], by simp [hl], ?_⟩
  intro i y hy
  by_cases hi : i < n
  ·rw [List.getElem?_append_left (by omega)] at hy
   exact hp i y hy
  have hlen := (List.getElem?_eq_some_iff.1 hy).1
  simp at hlen
  obtain rfl : i = n := by omega
  rw [List.getElem?_append_right (by omega)] at hy
  simp [hl] at hy
  subst hy
  exact hx
def Dn (w : World) (f : Nat) (a : Option Addr) (ds : List Dat) : Prop := Dc (fun b => b < w.heap.size) w f a ds
theorem Dn.lift {w w' : World} {f : Nat} {a : Option Addr} {ds : List Dat} (h : Dn w f a ds) (hb : Below w.heap.size w w') : Dn w' f a ds :=
 Dc.stay (fun k hk => hb.block k hk) (fun k hk => Nat.lt_of_lt_of_le hk hb.size) f a ds h
structure RowD (B : Nat) (v : Value) (es : List (Dat × Option Addr × Nat)) (w : World) : Prop where
 own : w.ownsRow B 26 6 v es.length (flat es)
 kids : ∀ e ∈ es, e.1.name.size ≤ maxLen ∧ e.1.kids.length ≤ e.2.2 ∧ ∃ f, Dc (fun b => b < w.heap.size ∧ some b ≠ v.ownBlock) w f e.2.1 e.1.kids
theorem RowD.lie {B : Nat} {v : Value} {es : List (Dat × Option Addr × Nat)} {w : World} (h : RowD B v es w) (hlen : es.length ≤ 9223372036854775807) : ∃ a cap f, v = .slice a (es.map (·.1)).length cap ∧ (es.map (·.1)).length ≤ cap ∧ Dc (fun b => b < w.heap.size) w f a (es.map (·.1)) := by
 -- one depth for all
 have hfuel : ∃ F, ∀ e ∈ es, Dc (fun b => b < w.heap.size) w F e.2.1 e.1.kids := by
  have aux : ∀ (l : List (Dat × Option Addr × Nat)), (∀ e ∈ l, ∃ f, Dc (fun b => b < w.heap.size) w f e.2.1 e.1.kids) → ∃ F, ∀ e ∈ l, Dc (fun b => b < w.heap.size) w F e.2.1 e.1.kids := by
   intro l
   induction l with
   | nil => exact fun _ => ⟨0, by simp⟩
   | cons x r ih =>
    intro hx
    obtain ⟨F, hF⟩ := ih (fun e he => hx e (List.mem_cons_of_mem _ he))
    obtain ⟨f, hf⟩ := hx x (by simp)
    refine ⟨f + F, fun e he => ?_⟩
    rcases List.mem_cons.1 he with rfl | he
    ·exact hf.upto F
    have := (hF e he).upto f
    rwa [Nat.add_comm] at this
  refine aux es (fun e he => ?_)
  obtain ⟨_, _, f, hd⟩ := h.kids e he
  exact ⟨f, Dc.stay (fun _ _ => rfl) (fun k hk => hk.1) f _ _ hd⟩
 obtain ⟨F, hF⟩ := hfuel
 rcases h.own.2 with ⟨rfl, h0⟩ | ⟨g, cap, cur, rfl, hbg, hg, hnc, hcm, hcs, htake⟩
 ·have : es = [] := List.length_eq_zero_iff.1 h0
  subst this
  exact ⟨none, 0, 0, rfl, Nat.le_refl _, rfl⟩
 refine ⟨some ⟨g, 0, none⟩, cap, F + 1, by simp, by simpa using hnc, ?_⟩
 refine ⟨by simp; exact hlen, ?_⟩
 refine Or.inr ⟨g, 0, rfl, (Array.getElem?_eq_some_iff.1 hg).1, ?_⟩
 intro i d hd
 rw [List.getElem?_map] at hd
 obtain ⟨e, he, rfl⟩ := Option.map_eq_some_iff.1 hd
 have hmem : e ∈ es := List.mem_of_getElem? he
 have hcell : ∀ j u, (flat es)[j]? = some u → w.cell? ⟨g, j, none⟩ = some u := by
  intro j u hu
  have := h.own.cells (g := g) rfl j u hu
  have hadd : (⟨g, 0, none⟩ : Addr).add j = ⟨g, j, none⟩ := by unfold Addr.add; split <;> simp_all
  rwa [hadd] at this
 have hflat : ∀ k, k < 6 → (flat es)[i * 6 + k]? = [Value.int .i64 e.1.kind, .int .i64 e.1.n, .string e.1.name, .int .i64 e.1.stamp, .int .i64 e.1.lib, .slice e.2.1 e.1.kids.length e.2.2][k]? := by
  have aux : ∀ (l : List (Dat × Option Addr × Nat)) (i : Nat), l[i]? = some e → ∀ k, k < 6 → (flat l)[i * 6 + k]? = [Value.int .i64 e.1.kind, .int .i64 e.1.n, .string e.1.name, .int .i64 e.1.stamp, .int .i64 e.1.lib, .slice e.2.1 e.1.kids.length e.2.2][k]? := by
   intro l
   induction l with
   | nil => intro i hi; simp at hi
   | cons x r ih =>
    intro i hi k hk
    have e1 : flat (x :: r) = [Value.int .i64 x.1.kind, .int .i64 x.1.n, .string x.1.name, .int .i64 x.1.stamp, .int .i64 x.1.lib, .slice x.2.1 x.1.kids.length x.2.2] ++ flat r := by simp [flat]
    rw [e1]
    cases i with
    | zero =>
     simp at hi
     subst hi
     rw [List.getElem?_append_left (by simp; omega)]
     simp
    | succ i =>
     rw [List.getElem?_append_right (by simp; omega)]
     have := ih i (by simpa using hi) k hk
     rw [← this]
     congr 1
     simp
     omega
  exact aux es i he
 refine ⟨e.2.1, e.2.2, ?_, ?_, ?_, ?_, ?_, ?_, (h.kids e hmem).1, (h.kids e hmem).2.1, hF e hmem⟩
 all_goals rw [Nat.zero_add]
 ·exact hcell _ _ (hflat 0 (by decide))
 ·exact hcell _ _ (hflat 1 (by decide))
 ·exact hcell _ _ (hflat 2 (by decide))
 ·exact hcell _ _ (hflat 3 (by decide))
 ·exact hcell _ _ (hflat 4 (by decide))
 exact hcell _ _ (hflat 5 (by decide))
theorem RowD.lieG {B : Nat} {v : Value} {es : List (Dat × Option Addr × Nat)} {w : World} (h : RowD B v es w) (hlen : es.length ≤ 9223372036854775807) (ok : Nat → Prop) (hgo : ∀ g, v.ownBlock = some g → ok g) (hko : ∀ e ∈ es, ∃ f, Dc ok w f e.2.1 e.1.kids) : ∃ a cap f, v = .slice a (es.map (·.1)).length cap ∧ (es.map (·.1)).length ≤ cap ∧ Dc ok w f a (es.map (·.1)) := by
 -- one depth for all
 have hfuel : ∃ F, ∀ e ∈ es, Dc ok w F e.2.1 e.1.kids := by
  have aux : ∀ (l : List (Dat × Option Addr × Nat)), (∀ e ∈ l, ∃ f, Dc ok w f e.2.1 e.1.kids) → ∃ F, ∀ e ∈ l, Dc ok w F e.2.1 e.1.kids := by
   intro l
   induction l with
   | nil => exact fun _ => ⟨0, by simp⟩
   | cons x r ih =>
    intro hx
    obtain ⟨F, hF⟩ := ih (fun e he => hx e (List.mem_cons_of_mem _ he))
    obtain ⟨f, hf⟩ := hx x (by simp)
    refine ⟨f + F, fun e he => ?_⟩
    rcases List.mem_cons.1 he with rfl | he
    ·exact hf.upto F
    have := (hF e he).upto f
    rwa [Nat.add_comm] at this
  exact aux es hko
 obtain ⟨F, hF⟩ := hfuel
 rcases h.own.2 with ⟨rfl, h0⟩ | ⟨g, cap, cur, rfl, hbg, hg, hnc, hcm, hcs, htake⟩
 ·have : es = [] := List.length_eq_zero_iff.1 h0
  subst this
  exact ⟨none, 0, 0, rfl, Nat.le_refl _, rfl⟩
 refine ⟨some ⟨g, 0, none⟩, cap, F + 1, by simp, by simpa using hnc, ?_⟩
 refine ⟨by simp; exact hlen, ?_⟩
 refine Or.inr ⟨g, 0, rfl, hgo g rfl, ?_⟩
 intro i d hd
 rw [List.getElem?_map] at hd
 obtain ⟨e, he, rfl⟩ := Option.map_eq_some_iff.1 hd
 have hmem : e ∈ es := List.mem_of_getElem? he
 have hcell : ∀ j u, (flat es)[j]? = some u → w.cell? ⟨g, j, none⟩ = some u := by
  intro j u hu
  have := h.own.cells (g := g) rfl j u hu
  have hadd : (⟨g, 0, none⟩ : Addr).add j = ⟨g, j, none⟩ := by unfold Addr.add; split <;> simp_all
  rwa [hadd] at this
 have hflat : ∀ k, k < 6 → (flat es)[i * 6 + k]? = [Value.int .i64 e.1.kind, .int .i64 e.1.n, .string e.1.name, .int .i64 e.1.stamp, .int .i64 e.1.lib, .slice e.2.1 e.1.kids.length e.2.2][k]? := by
  have aux : ∀ (l : List (Dat × Option Addr × Nat)) (i : Nat), l[i]? = some e → ∀ k, k < 6 → (flat l)[i * 6 + k]? = [Value.int .i64 e.1.kind, .int .i64 e.1.n, .string e.1.name, .int .i64 e.1.stamp, .int .i64 e.1.lib, .slice e.2.1 e.1.kids.length e.2.2][k]? := by
   intro l
   induction l with
   | nil => intro i hi; simp at hi
   | cons x r ih =>
    intro i hi k hk
    have e1 : flat (x :: r) = [Value.int .i64 x.1.kind, .int .i64 x.1.n, .string x.1.name, .int .i64 x.1.stamp, .int .i64 x.1.lib, .slice x.2.1 x.1.kids.length x.2.2] ++ flat r := by simp [flat]
    rw [e1]
    cases i with
    | zero =>
     simp at hi
     subst hi
     rw [List.getElem?_append_left (by simp; omega)]
     simp
    | succ i =>
     rw [List.getElem?_append_right (by simp; omega)]
     have := ih i (by simpa using hi) k hk
     rw [← this]
     congr 1
     simp
     omega
  exact aux es i he
 refine ⟨e.2.1, e.2.2, ?_, ?_, ?_, ?_, ?_, ?_, (h.kids e hmem).1, (h.kids e hmem).2.1, hF e hmem⟩
 all_goals rw [Nat.zero_add]
 ·exact hcell _ _ (hflat 0 (by decide))
 ·exact hcell _ _ (hflat 1 (by decide))
 ·exact hcell _ _ (hflat 2 (by decide))
 ·exact hcell _ _ (hflat 3 (by decide))
 ·exact hcell _ _ (hflat 4 (by decide))
 exact hcell _ _ (hflat 5 (by decide))
theorem flat_atD (e : Dat × Option Addr × Nat) : ∀ (l : List (Dat × Option Addr × Nat)) (i : Nat), l[i]? = some e → ∀ k, k < 6 → (flat l)[i * 6 + k]? = [Value.int .i64 e.1.kind, .int .i64 e.1.n, .string e.1.name, .int .i64 e.1.stamp, .int .i64 e.1.lib, .slice e.2.1 e.1.kids.length e.2.2][k]? := by
 intro l
 induction l with
 | nil => intro i hi; simp at hi
 | cons x r ih =>
  intro i hi k hk
  have e1 : flat (x :: r) = [Value.int .i64 x.1.kind, .int .i64 x.1.n, .string x.1.name, .int .i64 x.1.stamp, .int .i64 x.1.lib, .slice x.2.1 x.1.kids.length x.2.2] ++ flat r := by simp [flat]
  rw [e1]
  cases i with
  | zero =>
   simp at hi
   subst hi
   rw [List.getElem?_append_left (by simp; omega)]
   simp
  | succ i =>
   rw [List.getElem?_append_right (by simp; omega)]
   have := ih i (by simpa using hi) k hk
   rw [show (i + 1) * 6 + k - [Value.int .i64 x.1.kind, .int .i64 x.1.n, .string x.1.name, .int .i64 x.1.stamp, .int .i64 x.1.lib, .slice x.2.1 x.1.kids.length x.2.2].length = i * 6 + k by simp; omega]
   exact this
def ToldO (d : Dat) (w : World) (e : Ending) (w' : World) : Prop :=
 Below w.heap.size w w' ∧ ∃ a cap f, e = .returned (dv d a cap) ∧ d.kids.length ≤ cap ∧ Dc (New w w') w' f a d.kids
def alT : ByteArray := ⟨#[40, 108, 105, 98, 114, 97, 114, 121, 32, 40, 97, 32, 98, 41, 32, 40, 101, 120, 112, 111, 114, 116, 32, 120, 41, 32, 40, 105, 110, 99, 108, 117, 100, 101, 32, 102, 41, 41]⟩
def alF : ByteArray := ⟨#[40, 100, 101, 102, 105, 110, 101, 32, 120, 32, 49, 41]⟩
def alD : Dat := liD [syD ⟨#[108, 105, 98, 114, 97, 114, 121]⟩, liD [syD ⟨#[97]⟩, syD ⟨#[98]⟩], liD [syD ⟨#[101, 120, 112, 111, 114, 116]⟩, syD ⟨#[120]⟩], liD [syD ⟨#[105, 110, 99, 108, 117, 100, 101]⟩, syD ⟨#[102]⟩]]
def alE : Env := ⟨[(⟨#[102]⟩, alF)], [], []⟩
def alS : LibS := ⟨⟨#[97, 32, 98]⟩, [(⟨#[120]⟩, ⟨#[120]⟩)], [], [liD [syD ⟨#[100, 101, 102, 105, 110, 101]⟩, syD ⟨#[120]⟩, ⟨1, 1, ⟨#[]⟩, 0, 0, []⟩]]⟩
theorem namesF_lenG : ∀ (l : List Dat) (ns : List ByteArray), namesF l = .ok ns → ns.length = l.length
 | [], ns, h => by rw [namesF] at h; cases h; rfl
 | d :: r, ns, h => by
  rw [namesF] at h
  cases hn : nameF d with
  | no x => rw [hn] at h; cases h
  | ok n =>
   rw [hn] at h
   cases hr : namesF r with
   | no x => simp only [Er.bind, hr] at h; cases h
   | ok l' =>
    simp only [Er.bind, hr] at h
    cases h
    simp [namesF_lenG r l' hr]
theorem renamesF_lenG : ∀ (l : List Dat) (q : List ByteArray × List ByteArray), renamesF l = .ok q → q.1.length = l.length ∧ q.2.length = l.length
 | [], q, h => by rw [renamesF] at h; cases h; exact ⟨rfl, rfl⟩
 | d :: r, q, h => by
  rw [renamesF] at h
  cases hn : justF d 2 with
  | no x => rw [hn] at h; cases h
  | ok n =>
   rw [hn] at h
   cases hr : renamesF r with
   | no x => simp only [Er.bind, hr] at h; cases h
   | ok l' =>
    simp only [Er.bind, hr] at h
    cases h
    have := renamesF_lenG r l' hr
    simp [this.1, this.2]
theorem setF_se : ∀ (n : Nat) (d : Dat) (x : Se), okD d → setF n d = .ok x → seOk x
 | 0, d, x, _, h => by rw [setF] at h; cases h
 | n + 1, d, x, ho, h => by
  rw [setF] at h
  unfold thingsF at h
  split at h
  ·rename_i hk
   have hl := okD_list ho hk.1
   simp only [Er.bind] at h
   have hdl : (d.kids.drop 2).length ≤ 2000 := by rw [List.length_drop]; omega
   split at h
   ·cases hc : calledF d with
    | no z => rw [hc] at h; cases h
    | ok nm =>
     rw [hc] at h
     cases h
     rw [seOk, seOkL]
     simp
   have hod : okD (d.kids.getD 1 d) := by
    rw [List.getD_eq_getElem?_getD]
    cases hg : d.kids[1]? with
    | none => exact ho
    | some y => exact okL_mem hl.2 _ (List.mem_of_getElem? hg)
   cases hs : setF n (d.kids.getD 1 d) with
   | no z => rw [hs] at h; cases h
   | ok k =>
    have hk1 := setF_se n _ k hod hs
    have hkl : seOkL [k] := by rw [seOkL, seOkL]; exact ⟨hk1, trivial⟩
    rw [hs] at h
    simp only at h
    split at h
    ·cases hn : namesF (d.kids.drop 2) with
     | no z => rw [hn] at h; cases h
     | ok ns =>
      rw [hn] at h
      cases h
      have := namesF_lenG _ _ hn
      rw [seOk]
      exact ⟨by omega, by simp, by simp, hkl⟩
    split at h
    ·cases hn : oneF (d.kids.drop 2) with
     | no z => rw [hn] at h; cases h
     | ok y =>
      rw [hn] at h
      simp only at h
      cases hm : nameF y with
      | no z => rw [hm] at h; cases h
      | ok p =>
       rw [hm] at h
       cases h
       rw [seOk]
       exact ⟨by simp, by simp, by simp, hkl⟩
    split at h
    ·cases hn : renamesF (d.kids.drop 2) with
     | no z => rw [hn] at h; cases h
     | ok q =>
      rw [hn] at h
      cases h
      have := renamesF_lenG _ _ hn
      rw [seOk]
      exact ⟨by omega, by omega, by simp, hkl⟩
    cases h
    rw [seOk]
    exact ⟨by simp, by simp, by simp, hkl⟩
  cases h
theorem seOkL_append : ∀ {a b : List Se}, seOkL a → seOkL b → seOkL (a ++ b)
 | [], b, _, hb => hb
 | x :: r, b, ha, hb => by
  rw [seOkL] at ha
  rw [List.cons_append, seOkL]
  exact ⟨ha.1, seOkL_append ha.2 hb⟩
theorem exportsF_se : ∀ (a : List Dat) (s s' : LibS), exportsF a s = .ok s' → s'.imports = s.imports
 | [], s, s', h => by rw [exportsF] at h; cases h; rfl
 | d :: r, s, s', h => by
  rw [exportsF] at h
  cases he : exportF d with
  | no x => rw [he] at h; cases h
  | ok e =>
   rw [he] at h
   simp only [Er.bind] at h
   split at h
   ·cases h
   split at h
   ·have := exportsF_se r { s with exports := s.exports ++ [e] } s' h
    exact this
   cases h
theorem importsF_se : ∀ (a : List Dat) (s s' : LibS), okL a → seOkL s.imports → importsF a s = .ok s' → seOkL s'.imports
 | [], s, s', _, hi, h => by rw [importsF] at h; cases h; exact hi
 | d :: r, s, s', ho, hi, h => by
  rw [okL] at ho
  rw [importsF] at h
  split at h
  ·cases he : setF 12 d with
   | no x => rw [he] at h; cases h
   | ok e =>
    rw [he] at h
    exact importsF_se r { s with imports := s.imports ++ [e] } s' ho.2 (seOkL_append hi (by rw [seOkL, seOkL]; exact ⟨setF_se 12 d e ho.1 he, trivial⟩)) h
  cases h
theorem addF_se {l : List Dat} {s s' : LibS} (h : addF l s = .ok s') : s'.imports = s.imports := by
 unfold addF at h
 split at h
 ·cases h; rfl
 cases h
theorem includeF_se (E : Env) : ∀ (a : List Dat) (s s' : LibS), includeF E a s = .ok s' → s'.imports = s.imports
 | [], s, s', h => by rw [includeF] at h; cases h; rfl
 | d :: r, s, s', h => by
  rw [includeF] at h
  cases he : nameF d with
  | no x => rw [he] at h; cases h
  | ok n =>
   rw [he] at h
   simp only [Er.bind] at h
   split at h
   ·cases h
   split at h
   ·cases h
   rename_i ds _
   cases ha : addF ds s with
   | no x => rw [ha] at h; cases h
   | ok s2 =>
    rw [ha] at h
    exact (includeF_se E r s2 s' h).trans (addF_se ha)
mutual
theorem declD_se (E : Env) : ∀ (d : Dat) (s s' : LibS), okD d → seOkL s.imports → declD E d s = .ok s' → seOkL s'.imports
 | ⟨k, n, nm, st, lb, ks⟩, s, s', ho, hi, h => by
  rw [declD] at h
  split at h
  ·rename_i hk
   exact declK_se E ks s s' (okD_list ho hk).2 hi h
  cases h
theorem declK_se (E : Env) : ∀ (l : List Dat) (s s' : LibS), okL l → seOkL s.imports → declK E l s = .ok s' → seOkL s'.imports
 | [], s, s', _, hi, h => by rw [declK] at h; cases h
 | x :: r, s, s', ho, hi, h => by
  rw [okL] at ho
  have hC := declC_se E r s s' ho.2 hi
  rw [declK] at h
  split at h
  ·split at h
   ·split at h
    ·cases h
    rw [exportsF_se r s s' h]; exact hi
   split at h
   ·exact importsF_se r s s' ho.2 hi h
   split at h
   ·rw [addF_se h]; exact hi
   split at h
   ·rw [includeF_se E r s s' h]; exact hi
   split at h
   ·exact hC h
   cases h
  cases h
theorem declL_se (E : Env) : ∀ (l : List Dat) (s s' : LibS), okL l → seOkL s.imports → declL E l s = .ok s' → seOkL s'.imports
 | [], s, s', _, hi, h => by rw [declL] at h; cases h; exact hi
 | d :: r, s, s', ho, hi, h => by
  rw [okL] at ho
  rw [declL] at h
  cases hd : declD E d s with
  | no x => rw [hd] at h; cases h
  | ok s2 =>
   rw [hd] at h
   exact declL_se E r s2 s' ho.2 (declD_se E d s s2 ho.1 hi hd) h
theorem declC_se (E : Env) : ∀ (l : List Dat) (s s' : LibS), okL l → seOkL s.imports → declC E l s = .ok s' → seOkL s'.imports
 | [], s, s', _, hi, h => by rw [declC] at h; cases h; exact hi
 | c :: r, s, s', ho, hi, h => by
  rw [okL] at ho
  rw [declC] at h
  exact declB_se E c _ (fun s s' hi h => declC_se E r s s' ho.2 hi h) s s' ho.1 hi h
theorem declB_se (E : Env) : ∀ (d : Dat) (k : LibS → Er LibS) (hk : ∀ s s', seOkL s.imports → k s = .ok s' → seOkL s'.imports) (s s' : LibS), okD d → seOkL s.imports → declB E d k s = .ok s' → seOkL s'.imports
 | ⟨k0, n, nm, st, lb, ks⟩, k, hk, s, s', ho, hi, h => by
  rw [declB] at h
  split at h
  ·rename_i h4
   exact declT_se E ks k hk s s' (okD_list ho h4).2 hi h
  cases h
theorem declT_se (E : Env) : ∀ (l : List Dat) (k : LibS → Er LibS) (hk : ∀ s s', seOkL s.imports → k s = .ok s' → seOkL s'.imports) (s s' : LibS), okL l → seOkL s.imports → declT E l k s = .ok s' → seOkL s'.imports
 | [], k, hk, s, s', _, hi, h => by rw [declT] at h; cases h
 | x :: t, k, hk, s, s', ho, hi, h => by
  rw [okL] at ho
  have h1 := declL_se E t s s' ho.2 hi
  rw [declT] at h
  cases hc : clauseF E x with
  | no z => rw [hc] at h; cases h
  | ok b =>
   rw [hc] at h
   cases b with
   | true => exact h1 h
   | false => exact hk s s' hi h
end
theorem parseF_much (E : Env) (d : Dat) (s : LibS) (h : parseF E d = .ok s) : Inv s ∧ seOkL s.imports := by
 unfold parseF at h
 split at h
 ·rename_i h0
  rw [wrong_first] at h0
  have ho := okD_chk 40 d 0 (Nat.zero_le _) h0
  split at h
  ·unfold allF at h
   cases hf : formF d with
   | no z => rw [hf] at h; cases h
   | ok f =>
    rw [hf] at h
    simp only [Er.bind] at h
    have hfo : okL f.2 := by
     unfold formF thingsF at hf
     split at hf
     ·rename_i h4
      have := (okD_list ho h4.1).2
      simp only [Er.bind] at hf
      cases hd : d.kids with
      | nil => exact absurd hd h4.2
      | cons x r =>
       rw [hd] at hf this
       rw [okL] at this
       rw [headF] at hf
       cases hn : nameF x with
       | no z => rw [hn] at hf; cases hf
       | ok n => rw [hn] at hf; cases hf; exact this.2
     cases hf
    split at h
    ·cases hr : f.2 with
     | nil => rw [hr] at h; cases h
     | cons x r =>
      rw [hr] at h hfo
      rw [okL] at hfo
      simp only at h
      cases hc : calledF x with
      | no z => rw [hc] at h; cases h
      | ok n =>
       rw [hc] at h
       exact ⟨(declL_inv E r { lib0 with name := n } s ⟨by simp [lib0], by simp [lib0], by simp [lib0]⟩ h).1, declL_se E r { lib0 with name := n } s hfo.2 (by simp [lib0, seOkL]) h⟩
    split at h
    ·exact ⟨(declL_inv E f.2 lib0 s ⟨by simp [lib0], by simp [lib0], by simp [lib0]⟩ h).1, declL_se E f.2 lib0 s hfo (by simp [lib0, seOkL]) h⟩
    cases h
  cases h
 cases h
theorem RowD.made (W : World) (es : List (Dat × Option Addr × Nat)) (hl : es.length ≤ maxLen) (h : ∀ e ∈ es, e.1.name.size ≤ maxLen ∧ e.1.kids.length ≤ e.2.2 ∧ ∃ f, Dn W f e.2.1 e.1.kids) :
 RowD W.heap.size (.slice (some ⟨W.heap.size, 0, none⟩) es.length es.length) es (W.alloc (.cells (flat es).toArray 26)) := by
 refine ⟨⟨flat_len es, Or.inr ⟨W.heap.size, es.length, _, rfl, Nat.le_refl _, World.alloc_heap_new W _, Nat.le_refl _, hl, by simp [flat_len], ?_⟩⟩, fun e he => ?_⟩
 ·rw [← flat_len es]
  simp
 obtain ⟨h1, h2, f, h3⟩ := h e he
 refine ⟨h1, h2, f, Dc.stay (fun k hk => Below.heap_alloc _ _ _ hk) (fun k hk => ⟨by simp; omega, fun e => ?_⟩) _ _ _ h3⟩
 have := Option.some.inj e
 simp only at this
 omega
def ToldN (d : Dat) (w : World) (e : Ending) (w' : World) : Prop := Below w.heap.size w w' ∧ ∃ a cap f, e = .returned (dv d a cap) ∧ d.kids.length ≤ cap ∧ Dn w' f a d.kids
def libOf : Er LibS → LibS
 | .ok s => s
 | .no _ => lib0
def errOf : Er LibS → Int
 | .ok _ => 0
 | .no x => x
def ToldQ (r : Er LibS) (w : World) (e : Ending) (w' : World) : Prop := Below w.heap.size w w' ∧ ∃ ea nx ec ia ni ic ba nb bc, e = .returned (.tuple #[.agg #[.string (libOf r).name, .slice ea nx ec, .slice ia ni ic, .slice ba nb bc], .int .i64 (errOf r)]) ∧ LibM (fun k => w.heap.size ≤ k ∧ k < w'.heap.size) (libOf r) (.slice ea nx ec) (.slice ia ni ic) (.slice ba nb bc) w'
theorem lib0M (ok : Nat → Prop) (w : World) : LibM ok lib0 (.slice none 0 0) (.slice none 0 0) (.slice none 0 0) w :=
 ⟨⟨none, 0, rfl, Nat.le_refl _, Or.inl rfl⟩, .none none 0, ⟨none, 0, 0, rfl, Nat.le_refl _, rfl⟩⟩
theorem ToldA.q {r : Er LibS} {w w' : World} {e : Ending} (h : ToldA r w e w') : ToldQ r w e w' := by
 obtain ⟨hb, h⟩ := h
 refine ⟨hb, ?_⟩
 cases r with
 | ok s =>
  obtain ⟨ev, iv, bv, rfl, hm⟩ := h
  obtain ⟨ea, ec, rfl, _⟩ := hm.ex
  obtain ⟨ia, ni, ic, rfl⟩ := SeL.slice hm.im
  obtain ⟨ba, bc, bf, rfl, _⟩ := hm.bo
  exact ⟨_, _, _, _, _, _, _, _, _, rfl, hm⟩
 | no x => exact ⟨_, _, _, _, _, _, _, _, _, h, lib0M _ _⟩
theorem EnvW.grow {A B : Nat} {E : Env} {f1 f2 f3 : Value} {w : World} (h : EnvW A E f1 f2 f3 w) (hA : A ≤ B) : EnvW B E f1 f2 f3 w :=
 ⟨h.fl.stay (fun _ _ => rfl) (fun _ hk => Nat.lt_of_lt_of_le hk hA), h.fe.stay (fun _ _ => rfl) (fun _ hk => Nat.lt_of_lt_of_le hk hA), h.li.stay (fun _ _ => rfl) (fun _ hk => Nat.lt_of_lt_of_le hk hA), h.flL, h.feL, h.liL⟩
theorem lib0_much : Inv lib0 ∧ seOkL lib0.imports := ⟨⟨by simp [lib0], by simp [lib0], by simp [lib0]⟩, by simp [lib0, seOkL]⟩
theorem libOf_much (E : Env) (d : Dat) : Inv (libOf (parseF E d)) ∧ seOkL (libOf (parseF E d)).imports := by
 cases h : parseF E d with
 | ok s => exact parseF_much E d s h
 | no x => exact lib0_much
theorem Dc.atX {ok : Nat → Prop} {w : World} {f : Nat} {a : Option Addr} {ds : List Dat} (h : Dc ok w f a ds) (h0 : ds ≠ []) : ∃ f' b o, f = f' + 1 ∧ a = some ⟨b, o, none⟩ ∧ ok b ∧ ∀ (i : Nat) (d : Dat), ds[i]? = some d → ∃ a' cap,
 w.cell? ⟨b, o + i * 6, none⟩ = some (.int .i64 d.kind) ∧ w.cell? ⟨b, o + i * 6 + 1, none⟩ = some (.int .i64 d.n) ∧ w.cell? ⟨b, o + i * 6 + 2, none⟩ = some (.string d.name) ∧
 w.cell? ⟨b, o + i * 6 + 3, none⟩ = some (.int .i64 d.stamp) ∧ w.cell? ⟨b, o + i * 6 + 4, none⟩ = some (.int .i64 d.lib) ∧ w.cell? ⟨b, o + i * 6 + 5, none⟩ = some (.slice a' d.kids.length cap) ∧
 d.name.size ≤ maxLen ∧ d.kids.length ≤ cap ∧ Dc ok w f' a' d.kids := by
 cases f with
 | zero => exact absurd h h0
 | succ f =>
  obtain ⟨_, h | ⟨b, o, h1, h2, h3⟩⟩ := h
  ·exact absurd h h0
  exact ⟨f, b, o, rfl, h1, h2, h3⟩
theorem Dc.entsX {ok : Nat → Prop} {w : World} {f : Nat} {a : Option Addr} {l : List Dat} (h : Dc ok w f a l) (h0 : l ≠ []) : ∃ f' b o es, a = some ⟨b, o, none⟩ ∧ ok b ∧ es.map (·.1) = l ∧ (∀ j u, (flat es)[j]? = some u → w.cell? ⟨b, o + j, none⟩ = some u) ∧ ∀ e ∈ es, e.1.name.size ≤ maxLen ∧ e.1.kids.length ≤ e.2.2 ∧ Dc ok w f' e.2.1 e.1.kids := by
 obtain ⟨f', b, o, rfl, rfl, hb, hall⟩ := h.atX h0
 obtain ⟨es, hl, hes⟩ := pick_list (α := Dat × Option Addr × Nat) (fun i e => l[i]? = some e.1 ∧ (∀ k, k < 6 → w.cell? ⟨b, o + i * 6 + k, none⟩ = [Value.int .i64 e.1.kind, .int .i64 e.1.n, .string e.1.name, .int .i64 e.1.stamp, .int .i64 e.1.lib, .slice e.2.1 e.1.kids.length e.2.2][k]?) ∧ e.1.name.size ≤ maxLen ∧ e.1.kids.length ≤ e.2.2 ∧ Dc ok w f' e.2.1 e.1.kids) l.length (fun i hi => by
  obtain ⟨a', cap, k0, k1, k2, k3, k4, k5, hn, hc, hk⟩ := hall i l[i] (List.getElem?_eq_getElem hi)
  refine ⟨(l[i], a', cap), List.getElem?_eq_getElem hi, ?_, hn, hc, hk⟩
  intro k hk
  match k, hk with
  | 0, _ => simpa using k0
  | 1, _ => simpa using k1
  | 2, _ => simpa using k2
  | 3, _ => simpa using k3
  | 4, _ => simpa using k4
  | 5, _ => simpa using k5)
 refine ⟨f', b, o, es, rfl, hb, ?_, ?_, ?_⟩
 ·apply List.ext_getElem?
  intro i
  rw [List.getElem?_map]
  cases he : es[i]? with
  | none =>
   have : l.length ≤ i := by rw [← hl]; exact List.getElem?_eq_none_iff.1 he
   rw [List.getElem?_eq_none this]
   rfl
  | some e => exact (hes i e he).1.symm
 ·intro j u hu
  have hj : j < es.length * 6 := by
   have := (List.getElem?_eq_some_iff.1 hu).1
   rwa [flat_len] at this
  have hi : j / 6 < es.length := by omega
  have he := hes (j / 6) es[j / 6] (List.getElem?_eq_getElem hi)
  have hk := he.2.1 (j % 6) (by omega)
  have hf := flat_atD es[j / 6] es (j / 6) (List.getElem?_eq_getElem hi) (j % 6) (by omega)
  rw [show j / 6 * 6 + j % 6 = j by omega, hu] at hf
  rw [show o + j / 6 * 6 + j % 6 = o + j by omega, ← hf] at hk
  exact hk
 intro e he
 obtain ⟨i, hi⟩ := List.getElem?_of_mem he
 exact (hes i e hi).2.2
def ToldX (ok : Nat → Prop) (d : Dat) (w : World) (e : Ending) (w' : World) : Prop := Below w.heap.size w w' ∧ ∃ a cap f, e = .returned (dv d a cap) ∧ d.kids.length ≤ cap ∧ Dc (fun k => ok k ∨ (w.heap.size ≤ k ∧ k < w'.heap.size)) w' f a d.kids
structure RowE (ok : Nat → Prop) (B : Nat) (v : Value) (es : List (Dat × Option Addr × Nat)) (w : World) : Prop where
 own : w.ownsRow B 26 6 v es.length (flat es)
 kids : ∀ e ∈ es, e.1.name.size ≤ maxLen ∧ e.1.kids.length ≤ e.2.2 ∧ ∃ f, Dc (fun b => ok b ∧ b < w.heap.size ∧ some b ≠ v.ownBlock) w f e.2.1 e.1.kids
def DE (ok : Nat → Prop) (w : World) (d : Dat) (a : Option Addr) (c : Nat) : Prop := d.name.size ≤ maxLen ∧ d.kids.length ≤ c ∧ ∃ f, Dc (fun b => ok b ∧ b < w.heap.size) w f a d.kids
theorem RowE.d {ok : Nat → Prop} {B : Nat} {v : Value} {es : List (Dat × Option Addr × Nat)} {w : World} (h : RowE ok B v es w) : RowD B v es w :=
 ⟨h.own, fun e he => by
  obtain ⟨h1, h2, f, h3⟩ := h.kids e he
  exact ⟨h1, h2, f, Dc.stay (fun _ _ => rfl) (fun k hk => hk.2) _ _ _ h3⟩⟩
theorem RowE.made (ok : Nat → Prop) (W : World) (es : List (Dat × Option Addr × Nat)) (hl : es.length ≤ maxLen) (h : ∀ e ∈ es, DE ok W e.1 e.2.1 e.2.2) :
 RowE ok W.heap.size (.slice (some ⟨W.heap.size, 0, none⟩) es.length es.length) es (W.alloc (.cells (flat es).toArray 26)) := by
 refine ⟨(RowD.made W es hl (fun e he => ?_)).own, fun e he => ?_⟩
 ·obtain ⟨h1, h2, f, h3⟩ := h e he
  exact ⟨h1, h2, f, Dc.stay (fun _ _ => rfl) (fun k h => h.2) _ _ _ h3⟩
 obtain ⟨h1, h2, f, h3⟩ := h e he
 refine ⟨h1, h2, f, Dc.stay (fun k hk => Below.heap_alloc _ _ _ hk.2) (fun k hk => ⟨hk.1, by simp; exact Nat.lt_succ_of_lt hk.2, fun e => ?_⟩) _ _ _ h3⟩
 have h9 := Option.some.inj e
 simp only at h9
 have := hk.2
 omega
theorem RowE.more {ok : Nat → Prop} {B : Nat} {v v' : Value} {es fs : List (Dat × Option Addr × Nat)} {w1 w' : World} (h : RowE ok B v es w1)
 (hd : ∀ e ∈ fs, e.1.name.size ≤ maxLen ∧ e.1.kids.length ≤ e.2.2 ∧ ∃ f, Dc (fun b => ok b ∧ b < w1.heap.size ∧ some b ≠ v.ownBlock) w1 f e.2.1 e.1.kids)
 (hown : w'.ownsRow B 26 6 v' (es.length + fs.length) (flat es ++ flat fs))
 (hg : w1.grownBy w' v.ownBlock) (hw : v'.ownBlock = v.ownBlock ∨ v'.ownBlock = some w1.heap.size) : RowE ok B v' (es ++ fs) w' := by
 have hnew : ∀ k, k < w1.heap.size → some k ≠ v.ownBlock → some k ≠ v'.ownBlock := by
  intro k hk hne
  rcases hw with e | e
  ·rw [e]; exact hne
  rw [e]
  intro e2
  have := Option.some.inj e2
  omega
 refine ⟨?_, fun e he => ?_⟩
 ·rw [show flat (es ++ fs) = flat es ++ flat fs by simp [flat], List.length_append]
  exact hown
 have hx : e.1.name.size ≤ maxLen ∧ e.1.kids.length ≤ e.2.2 ∧ ∃ f, Dc (fun b => ok b ∧ b < w1.heap.size ∧ some b ≠ v.ownBlock) w1 f e.2.1 e.1.kids := by
  rcases List.mem_append.1 he with he | he
  ·exact h.kids e he
  exact hd e he
 obtain ⟨hn, hc, f, hd⟩ := hx
 exact ⟨hn, hc, f, Dc.stay (fun k hk => hg.block k hk.2.1 hk.2.2) (fun k hk => ⟨hk.1, Nat.lt_of_lt_of_le hk.2.1 hg.size, hnew k hk.2.1 hk.2.2⟩) f _ _ hd⟩
theorem run_rowE {w : World} (ty : TypeId) {ok : Nat → Prop} {B : Nat} {v : Value} {es : List (Dat × Option Addr × Nat)} (hv : RowE ok B v es w) {F : Nat} {a : Option Addr} {l : List Dat} {cap : Nat}
 (hd : Dc (fun b => ok b ∧ b < w.heap.size ∧ some b ≠ v.ownBlock) w F a l) (hBw : B ≤ w.heap.size) (hl : (es.length + l.length) * 72 ≤ 140737488355328) :
 ∃ v' w' fs, (Builtin.append_ #[24, 24] ty #[v, .slice a l.length cap]).run Tryz.prog w = .ok v' w' ∧ fs.map (·.1) = l ∧ RowE ok B v' (es ++ fs) w' ∧ Below B w w' ∧ (v'.ownBlock = v.ownBlock ∨ v'.ownBlock = some w.heap.size) ∧ w.grownBy w' v.ownBlock := by
 obtain ⟨i0, hinf, hz0, hz1, hz2⟩ := info_parts infoDat
 by_cases hl0 : l = []
 ·subst hl0
  obtain ⟨va, vc, f0, hva, hvc, _⟩ := hv.d.lie (by omega)
  rw [List.length_map] at hva hvc
  subst hva
  have hr2 : (Builtin.append_ #[24, 24] ty #[.slice va es.length vc, .slice a 0 cap]).run Tryz.prog w = .ok (.slice va es.length vc) w := by
   refine run_append_nothing w 24 24 ty 26 i0 Tryz.underlying24 hinf va es.length vc hvc (.slice a 0 cap) ?_
   cases a with
   | none => exact Src.ofNil w Tryz.underlying24 cap
   | some a => exact Src.ofSlice w Tryz.underlying24 a 0 cap [] (by simp) (by simp) (by simp)
  exact ⟨_, _, [], hr2, rfl, by rw [List.append_nil]; exact hv, Below.refl _ _, Or.inl rfl, World.grownBy.refl _ _⟩
 obtain ⟨f', b, oo, fs, rfl, hb, hes, hcell, hall⟩ := hd.entsX hl0
 have hlen : fs.length = l.length := by rw [← hes, List.length_map]
 obtain ⟨v', w', hr, h2, h3, h4⟩ := run_append_where (P := Tryz.prog) w B 24 ty 26 i0 _ 6 72 Tryz.underlying24 hinf hz0 hz1 hz2 rfl (by decide) v es.length (flat es) hv.own ⟨b, oo, none⟩ l.length cap (flat fs) (by rw [flat_len, hlen]) (by
  intro j u hu
  have hadd : (⟨b, oo, none⟩ : Addr).add j = ⟨b, oo + j, none⟩ := by unfold Addr.add; split <;> simp_all
  rw [hadd]
  exact hcell j u hu) (flat_one fs) (List.length_pos_iff.2 hl0) (by unfold maxLen; omega) hl hBw
 exact ⟨v', w', fs, hr, hes, hv.more (fun e he => by
  obtain ⟨g1, g2, g3⟩ := hall e he
  exact ⟨g1, g2, f', g3⟩) (by rw [hlen]; exact h2) h3 h4, (Below.refl B w).grown h3 hBw (fun k hk => (hv.own.lt k hk).1), h4, h3⟩
theorem wpList_rowE {w : World} {ops : Array Oper} {rest : List Oper} {o : Oper} {act : Act} {Q : Exit → Act → World → Prop} (hgd : o.guard = none) (s x : Operand)
 (ho : o.op = .call { callee := .builtin .append, args := #[s, x], argTypes := #[24, 24] })
 {ok : Nat → Prop} {B : Nat} {v : Value} {es : List (Dat × Option Addr × Nat)} (hv : RowE ok B v es w) {F : Nat} {a : Option Addr} {l : List Dat} {cap : Nat}
 (hs : act.eval s = v) (hx : act.eval x = .slice a l.length cap)
 (hd : Dc (fun b => ok b ∧ b < w.heap.size ∧ some b ≠ v.ownBlock) w F a l) (hBw : B ≤ w.heap.size) (hl : (es.length + l.length) * 72 ≤ 140737488355328)
 (h : ∀ v' w' fs, fs.map (·.1) = l → RowE ok B v' (es ++ fs) w' → Below B w w' → (v'.ownBlock = v.ownBlock ∨ v'.ownBlock = some w.heap.size) → w.grownBy w' v.ownBlock → wpList Tryz.prog ops Q rest (act.put o.dst v') w') : wpList Tryz.prog ops Q (o :: rest) act w := by
 refine wpList_plain hgd fun _ hK => ?_
 obtain ⟨v', w', fs, hrun, h2, h3, h4, h5, h6⟩ := run_rowE o.type hv (cap := cap) hd hBw hl
 unfold Oper.wp execOp
 simp only [ho, resolve, invoke, builtin, Sem.run_bind, Sem.run_pure, Result.andThen_ok, List.map_toArray, List.map_cons, List.map_nil, hs, hx, hrun]
 exact hK _ _ (h v' w' fs h2 h3 h4 h5 h6)
def dvK (a : Option Addr) (n c : Nat) : Value := .agg #[.int .i64 4, .int .i64 0, .string ⟨#[]⟩, .int .i64 0, .int .i64 0, .slice a n c]
def TellR (ok : Nat → Prop) (ks : List Dat) (w : World) (e : Ending) (w' : World) : Prop := Below w.heap.size w w' ∧ ∃ a c es, e = .returned (dvK a es.length c) ∧ es.map (·.1) = ks ∧ RowE ok w.heap.size (.slice a es.length c) es w'
theorem upD {ok : Nat → Prop} {w w' : World} {a : Option Addr} {l : List Dat} (h : ∃ f, Dc (fun b => ok b ∧ b < w.heap.size) w f a l) (hb : Below w.heap.size w w') : ∃ f, Dc (fun b => ok b ∧ b < w'.heap.size) w' f a l := by
 obtain ⟨f, hf⟩ := h
 exact ⟨f, Dc.stay (fun k hk => hb.block k hk.2) (fun k hk => ⟨hk.1, Nat.lt_of_lt_of_le hk.2 hb.size⟩) _ _ _ hf⟩
theorem toD {ok ok' : Nat → Prop} {w : World} {a : Option Addr} {l : List Dat} (h : ∃ f, Dc (fun b => ok b ∧ b < w.heap.size) w f a l) (hk : ∀ k, ok k → k < w.heap.size → ok' k) : ∃ f, Dc (fun b => ok' b ∧ b < w.heap.size) w f a l := by
 obtain ⟨f, hf⟩ := h
 exact ⟨f, Dc.stay (fun _ _ => rfl) (fun k h => ⟨hk k h.1 h.2, h.2⟩) _ _ _ hf⟩
theorem store6 {w : World} {N B : Nat} {c0 c1 c2 c3 c4 c5 : Value} (h : w.heap[N]? = some (.cells #[c0, c1, c2, c3, c4, c5] 26 (0, 0))) (hB : B ≤ N) (v0 v1 v2 v3 v4 v5 : Value) :
 ((((((w.setCell ⟨N, 0, none⟩ v0).setCell ⟨N, 1, none⟩ v1).setCell ⟨N, 2, none⟩ v2).setCell ⟨N, 3, none⟩ v3).setCell ⟨N, 4, none⟩ v4).setCell ⟨N, 5, none⟩ v5).heap[N]? = some (.cells #[v0, v1, v2, v3, v4, v5] 26 (0, 0)) ∧ (∀ k, k ≠ N → ((((((w.setCell ⟨N, 0, none⟩ v0).setCell ⟨N, 1, none⟩ v1).setCell ⟨N, 2, none⟩ v2).setCell ⟨N, 3, none⟩ v3).setCell ⟨N, 4, none⟩ v4).setCell ⟨N, 5, none⟩ v5).heap[k]? = w.heap[k]?) ∧ ((((((w.setCell ⟨N, 0, none⟩ v0).setCell ⟨N, 1, none⟩ v1).setCell ⟨N, 2, none⟩ v2).setCell ⟨N, 3, none⟩ v3).setCell ⟨N, 4, none⟩ v4).setCell ⟨N, 5, none⟩ v5).heap.size = w.heap.size ∧ ∀ u, Below B u w → Below B u ((((((w.setCell ⟨N, 0, none⟩ v0).setCell ⟨N, 1, none⟩ v1).setCell ⟨N, 2, none⟩ v2).setCell ⟨N, 3, none⟩ v3).setCell ⟨N, 4, none⟩ v4).setCell ⟨N, 5, none⟩ v5) :=
 ⟨set6 h v0 v1 v2 v3 v4 v5, fun k hk => six_far hk _ _ _ _ _ _, by simp, fun u hu => (((((hu.setCell (p := ⟨N, 0, none⟩) hB _).setCell (p := ⟨N, 1, none⟩) hB _).setCell (p := ⟨N, 2, none⟩) hB _).setCell (p := ⟨N, 3, none⟩) hB _).setCell (p := ⟨N, 4, none⟩) hB _).setCell (p := ⟨N, 5, none⟩) hB _⟩
theorem store6K {K : Act → World → Prop} {a : Act} {w : World} {N B : Nat} {c0 c1 c2 c3 c4 c5 v0 v1 v2 v3 v4 v5 : Value} (h : w.heap[N]? = some (.cells #[c0, c1, c2, c3, c4, c5] 26 (0, 0))) (hB : B ≤ N)
 (k : ∀ W, W.heap[N]? = some (.cells #[v0, v1, v2, v3, v4, v5] 26 (0, 0)) → (∀ k, k ≠ N → W.heap[k]? = w.heap[k]?) → W.heap.size = w.heap.size → (∀ u, Below B u w → Below B u W) → Keep N w W → K a W) : K a ((((((w.setCell ⟨N, 0, none⟩ v0).setCell ⟨N, 1, none⟩ v1).setCell ⟨N, 2, none⟩ v2).setCell ⟨N, 3, none⟩ v3).setCell ⟨N, 4, none⟩ v4).setCell ⟨N, 5, none⟩ v5) :=
 k _ (store6 h hB v0 v1 v2 v3 v4 v5).1 (store6 h hB v0 v1 v2 v3 v4 v5).2.1 (store6 h hB v0 v1 v2 v3 v4 v5).2.2.1 (store6 h hB v0 v1 v2 v3 v4 v5).2.2.2 ((((((Keep.refl N w).setCell _ rfl _).setCell _ rfl _).setCell _ rfl _).setCell _ rfl _).setCell _ rfl _ |>.setCell _ rfl _)
theorem DE.kept {ok : Nat → Prop} {w w' : World} {d : Dat} {a : Option Addr} {c N : Nat} (h : DE ok w d a c) (hf : ∀ k, k ≠ N → w'.heap[k]? = w.heap[k]?) (hs : w'.heap.size = w.heap.size) (hn : ∀ k, ok k → k ≠ N) : DE ok w' d a c := by
 obtain ⟨h1, h2, f, h3⟩ := h
 exact ⟨h1, h2, f, Dc.stay (fun k hk => hf k (hn k hk.1)) (fun k hk => ⟨hk.1, by rw [hs]; exact hk.2⟩) _ _ _ h3⟩
end Go.Proofs.YtonafbennobgdaaGreatDoor
