/- Cores in memory; what package model finds wrong with a node. What package model finds wrong with a node's fields. Package model's checker. What package model finds wrong with a part. What package model finds wrong with one part. How much code there will be: package code's scale. Whether there will be too much code. How long the code is, and how many procedures there are. -/
import Derived.Deep.AppendLies
import Derived.Deep.CutRange
import Derived.Deep.RegionHeld3
import Derived.Deep.RegionHeldLaw
import Derived.Deep.RegionLaw
import Derived.Deep.Upon
import Derived.OrdersHeld
import Derived.RangeFuncRecord
import Derived.Test.YtdnbingddbakaaaGreatDoorK01
import Derived.Test.YtdnbingddbakaaaGreatDoorK05
namespace Go.Proofs.YtdnbingddbakaaaGreatDoor
section
set_option linter.unusedVariables false
set_option linter.unusedSimpArgs false
open Go.RowKit

/-- Data ds lie behind a, in blocks that are such. -/
def Dc (ok : Nat → Prop) (w : World) : Nat → Option Addr → List Dat → Prop
  | 0, _, ds => ds = []
  | f + 1, a, ds => ds.length ≤ 9223372036854775807 ∧ (ds = [] ∨ ∃ b o, a = some ⟨b, o, none⟩ ∧ ok b ∧ ∀ (i : Nat) (d : Dat), ds[i]? = some d → ∃ a' cap,
      w.cell? ⟨b, o + i * 6, none⟩ = some (.int .i64 d.kind) ∧ w.cell? ⟨b, o + i * 6 + 1, none⟩ = some (.int .i64 d.n) ∧ w.cell? ⟨b, o + i * 6 + 2, none⟩ = some (.string d.name) ∧
      w.cell? ⟨b, o + i * 6 + 3, none⟩ = some (.int .i64 d.stamp) ∧ w.cell? ⟨b, o + i * 6 + 4, none⟩ = some (.int .i64 d.lib) ∧ w.cell? ⟨b, o + i * 6 + 5, none⟩ = some (.slice a' d.kids.length cap) ∧
      d.name.size ≤ maxLen ∧ d.kids.length ≤ cap ∧ Dc ok w f a' d.kids)

theorem Dc.stay {ok ok' : Nat → Prop} {w w' : World} (hw : ∀ k, ok k → w'.heap[k]? = w.heap[k]?) (ho : ∀ k, ok k → ok' k) : ∀ (f : Nat) (a : Option Addr) (ds : List Dat), Dc ok w f a ds → Dc ok' w' f a ds
  | 0, _, _, h => h
  | f + 1, a, ds, h => by
    obtain ⟨hl, h⟩ := h
    refine ⟨hl, ?_⟩
    rcases h with h | ⟨b, o, ha, hb, h⟩
    · exact Or.inl h
    · refine Or.inr ⟨b, o, ha, ho b hb, fun i d hd => ?_⟩
      obtain ⟨a', cap, c0, c1, c2, c3, c4, c5, hn, hc, hk⟩ := h i d hd
      have e : ∀ q, w'.cell? ⟨b, q, none⟩ = w.cell? ⟨b, q, none⟩ := fun q => World.cell?_of_block (hw b hb)
      exact ⟨a', cap, (e _).trans c0, (e _).trans c1, (e _).trans c2, (e _).trans c3, (e _).trans c4, (e _).trans c5, hn, hc, Dc.stay hw ho f a' _ hk⟩

theorem Dc.nil (ok : Nat → Prop) (w : World) (f : Nat) (a : Option Addr) : Dc ok w f a [] := by
  cases f with
  | zero => rfl
  | succ f => exact ⟨Nat.zero_le _, Or.inl rfl⟩

theorem Dc.more {ok : Nat → Prop} {w : World} : ∀ (f : Nat) (a : Option Addr) (ds : List Dat), Dc ok w f a ds → Dc ok w (f + 1) a ds
  | 0, a, ds, h => by
    rw [show ds = [] from h]
    exact Dc.nil _ _ _ _
  | f + 1, a, ds, h => by
    obtain ⟨hl, h⟩ := h
    refine ⟨hl, ?_⟩
    rcases h with h | ⟨b, o, ha, hb, h⟩
    · exact Or.inl h
    · refine Or.inr ⟨b, o, ha, hb, fun i d hd => ?_⟩
      obtain ⟨a', cap, c0, c1, c2, c3, c4, c5, hn, hc, hk⟩ := h i d hd
      exact ⟨a', cap, c0, c1, c2, c3, c4, c5, hn, hc, Dc.more f a' _ hk⟩

theorem Dc.upto {ok : Nat → Prop} {w : World} {f : Nat} {a : Option Addr} {ds : List Dat} (h : Dc ok w f a ds) : ∀ (k : Nat), Dc ok w (f + k) a ds
  | 0 => h
  | k + 1 => Dc.more _ _ _ (h.upto k)

theorem Dc.lies {ok : Nat → Prop} {B : Nat} {w : World} (ho : ∀ k, ok k → k < B) : ∀ (f : Nat) (a : Option Addr) (ds : List Dat), Dc ok w f a ds → Lies B w f a ds
  | 0, _, _, h => h
  | f + 1, a, ds, h => by
    obtain ⟨hl, h⟩ := h
    refine ⟨hl, ?_⟩
    rcases h with h | ⟨b, o, ha, hb, h⟩
    · exact Or.inl h
    · refine Or.inr ⟨b, o, ha, ho b hb, fun i d hd => ?_⟩
      obtain ⟨a', cap, c0, c1, c2, c3, c4, c5, hn, hc, hk⟩ := h i d hd
      exact ⟨a', cap, c0, c1, c2, c3, c4, c5, hn, Dc.lies ho f a' _ hk⟩

theorem hidd {p : Prop} (h : p) : Hid p := h
theorem ba_eq {a b : ByteArray} (h : a.data.toList = b.data.toList) : a = b := by
  cases a; cases b; simpa using h
theorem beqS_true {a b : ByteArray} (h : (a.toList == b.toList) = true) : a = b := by
  rw [ByteArray.toList_eq, ByteArray.toList_eq] at h
  exact ba_eq (by simpa using h)
theorem beqS_ne {a b : ByteArray} (h : ¬ a = b) : (a.toList == b.toList) = false := by
  cases e : (a.toList == b.toList) with
  | false => rfl
  | true => exact absurd (beqS_true e) h

/-- A node's twelve cells. -/
structure Nc (w : World) (b o : Nat) (c : Cor) (qa : Option Addr) (qc : Nat) (ka : Option Addr) (kc : Nat) : Prop where
  c0 : w.cell? ⟨b, o, none⟩ = some (.int .i64 c.kind)
  c1 : w.cell? ⟨b, o + 1, none⟩ = some (.int .i64 c.index)
  c2 : w.cell? ⟨b, o + 2, none⟩ = some (.int .i64 c.n)
  c3 : w.cell? ⟨b, o + 3, none⟩ = some (.string c.lib)
  c4 : w.cell? ⟨b, o + 4, none⟩ = some (.string c.own)
  c5 : w.cell? ⟨b, o + 5, none⟩ = some (.int .i64 c.quote.kind)
  c6 : w.cell? ⟨b, o + 6, none⟩ = some (.int .i64 c.quote.n)
  c7 : w.cell? ⟨b, o + 7, none⟩ = some (.string c.quote.name)
  c8 : w.cell? ⟨b, o + 8, none⟩ = some (.int .i64 c.quote.stamp)
  c9 : w.cell? ⟨b, o + 9, none⟩ = some (.int .i64 c.quote.lib)
  c10 : w.cell? ⟨b, o + 10, none⟩ = some (.slice qa c.quote.kids.length qc)
  c11 : w.cell? ⟨b, o + 11, none⟩ = some (.slice ka c.kids.length kc)
theorem Nc.stay {w w' : World} {b o : Nat} {c : Cor} {qa : Option Addr} {qc : Nat} {ka : Option Addr} {kc : Nat} (h : Nc w b o c qa qc ka kc) (hw : w'.heap[b]? = w.heap[b]?) : Nc w' b o c qa qc ka kc := by
  have e : ∀ q, w'.cell? ⟨b, q, none⟩ = w.cell? ⟨b, q, none⟩ := fun q => World.cell?_of_block hw
  exact ⟨(e _).trans h.c0, (e _).trans h.c1, (e _).trans h.c2, (e _).trans h.c3, (e _).trans h.c4, (e _).trans h.c5, (e _).trans h.c6, (e _).trans h.c7, (e _).trans h.c8, (e _).trans h.c9, (e _).trans h.c10, (e _).trans h.c11⟩
/-- What a node in memory has beside its cells. -/
def NcOk (c : Cor) (qc kc : Nat) : Prop := c.lib.size ≤ maxLen ∧ c.own.size ≤ maxLen ∧ c.quote.name.size ≤ maxLen ∧ c.quote.kids.length ≤ qc ∧ c.kids.length ≤ kc
/-- Expressions lie behind a, in blocks below B. -/
def Cc (B : Nat) (w : World) : Nat → Option Addr → List Cor → Prop
  | 0, _, cs => cs = []
  | f + 1, a, cs => cs.length ≤ 9223372036854775807 ∧ (cs = [] ∨ ∃ b o, a = some ⟨b, o, none⟩ ∧ b < B ∧ ∀ (i : Nat) (c : Cor), cs[i]? = some c → ∃ qa qc ka kc,
      Nc w b (o + i * 12) c qa qc ka kc ∧ NcOk c qc kc ∧ Dc (fun k => k < B) w f qa c.quote.kids ∧ Cc B w f ka c.kids)
/-- An expression lies at a place. -/
def Cn (B : Nat) (w : World) (f b o : Nat) (c : Cor) : Prop := b < B ∧ ∃ qa qc ka kc, Nc w b o c qa qc ka kc ∧ NcOk c qc kc ∧ Dc (fun k => k < B) w f qa c.quote.kids ∧ Cc B w f ka c.kids
theorem Cc.stay {B : Nat} {w w' : World} (hw : ∀ k, k < B → w'.heap[k]? = w.heap[k]?) : ∀ (f : Nat) (a : Option Addr) (cs : List Cor), Cc B w f a cs → Cc B w' f a cs
  | 0, _, _, h => h
  | f + 1, a, cs, h => by
    obtain ⟨hl, h⟩ := h
    refine ⟨hl, ?_⟩
    rcases h with h | ⟨b, o, ha, hb, h⟩
    · exact Or.inl h
    · refine Or.inr ⟨b, o, ha, hb, fun i c hc => ?_⟩
      obtain ⟨qa, qc, ka, kc, h1, h2, h3, h4⟩ := h i c hc
      exact ⟨qa, qc, ka, kc, h1.stay (hw b hb), h2, Dc.stay (fun k hk => hw k hk) (fun _ hk => hk) _ _ _ h3, Cc.stay hw f ka _ h4⟩
theorem Cn.stay {B : Nat} {w w' : World} {f b o : Nat} {c : Cor} (h : Cn B w f b o c) (hw : ∀ k, k < B → w'.heap[k]? = w.heap[k]?) : Cn B w' f b o c := by
  obtain ⟨hb, qa, qc, ka, kc, h1, h2, h3, h4⟩ := h
  exact ⟨hb, qa, qc, ka, kc, h1.stay (hw b hb), h2, Dc.stay (fun k hk => hw k hk) (fun _ hk => hk) _ _ _ h3, Cc.stay hw f ka _ h4⟩
theorem Cc.below {B : Nat} {w w' : World} {f : Nat} {a : Option Addr} {cs : List Cor} (h : Cc B w f a cs) (hb : Below B w w') : Cc B w' f a cs := Cc.stay (fun k hk => hb.block k hk) f a cs h
theorem Cn.below {B : Nat} {w w' : World} {f b o : Nat} {c : Cor} (h : Cn B w f b o c) (hb : Below B w w') : Cn B w' f b o c := h.stay (fun k hk => hb.block k hk)
theorem Cc.len {B : Nat} {w : World} {f : Nat} {a : Option Addr} {cs : List Cor} (h : Cc B w f a cs) : cs.length ≤ 9223372036854775807 := by
  cases f with
  | zero => rw [show cs = [] from h]; exact Nat.zero_le _
  | succ f => exact h.1
theorem Cc.at {B : Nat} {w : World} {f : Nat} {a : Option Addr} {cs : List Cor} (h : Cc B w f a cs) (h0 : cs ≠ []) : ∃ g b o, f = g + 1 ∧ a = some ⟨b, o, none⟩ ∧ ∀ (i : Nat) (c : Cor), cs[i]? = some c → Cn B w g b (o + i * 12) c := by
  cases f with
  | zero => exact absurd h h0
  | succ f =>
    rcases h.2 with h | ⟨b, o, ha, hb, h⟩
    · exact absurd h h0
    · exact ⟨f, b, o, rfl, ha, fun i c hc => ⟨hb, h i c hc⟩⟩

set_option maxRecDepth 100000 in
set_option maxHeartbeats 1600000 in
theorem argsOf_any (o : ByteArray) (w : World) : Calls Tryz.prog 146 #[.string o] w fun e w' => e = .returned (.int .i64 (argsB o)) ∧ w' = w := by
  unfold argsB primTab
  simp only [argsTab]
  by_cases h0 : o = ⟨#[99, 97, 114]⟩
  · have e0 : (o.toList == [99, 97, 114]) = true := by rw [h0]; decide +kernel
    rw [if_pos h0]
    clear h0
    go_enter Tryz.func146, Tryz.ntmps146
    go_wp2_with fail
    go_ret
    exact ⟨rfl, rfl⟩
  have e0 : (o.toList == [99, 97, 114]) = false := by have h := beqS_ne h0; simpa [ByteArray.toList_eq] using h
  rw [if_neg h0]
  clear h0
  by_cases h1 : o = ⟨#[99, 100, 114]⟩
  · have e1 : (o.toList == [99, 100, 114]) = true := by rw [h1]; decide +kernel
    rw [if_pos h1]
    clear h1
    go_enter Tryz.func146, Tryz.ntmps146
    go_wp2_with fail
    go_ret
    exact ⟨rfl, rfl⟩
  have e1 : (o.toList == [99, 100, 114]) = false := by have h := beqS_ne h1; simpa [ByteArray.toList_eq] using h
  rw [if_neg h1]
  clear h1
  by_cases h2 : o = ⟨#[110, 111, 116]⟩
  · have e2 : (o.toList == [110, 111, 116]) = true := by rw [h2]; decide +kernel
    rw [if_pos h2]
    clear h2
    go_enter Tryz.func146, Tryz.ntmps146
    go_wp2_with fail
    go_ret
    exact ⟨rfl, rfl⟩
  have e2 : (o.toList == [110, 111, 116]) = false := by have h := beqS_ne h2; simpa [ByteArray.toList_eq] using h
  rw [if_neg h2]
  clear h2
  by_cases h3 : o = ⟨#[110, 117, 108, 108, 63]⟩
  · have e3 : (o.toList == [110, 117, 108, 108, 63]) = true := by rw [h3]; decide +kernel
    rw [if_pos h3]
    clear h3
    go_enter Tryz.func146, Tryz.ntmps146
    go_wp2_with fail
    go_ret
    exact ⟨rfl, rfl⟩
  have e3 : (o.toList == [110, 117, 108, 108, 63]) = false := by have h := beqS_ne h3; simpa [ByteArray.toList_eq] using h
  rw [if_neg h3]
  clear h3
  by_cases h4 : o = ⟨#[111, 117, 116]⟩
  · have e4 : (o.toList == [111, 117, 116]) = true := by rw [h4]; decide +kernel
    rw [if_pos h4]
    clear h4
    go_enter Tryz.func146, Tryz.ntmps146
    go_wp2_with fail
    go_ret
    exact ⟨rfl, rfl⟩
  have e4 : (o.toList == [111, 117, 116]) = false := by have h := beqS_ne h4; simpa [ByteArray.toList_eq] using h
  rw [if_neg h4]
  clear h4
  by_cases h5 : o = ⟨#[112, 97, 105, 114, 63]⟩
  · have e5 : (o.toList == [112, 97, 105, 114, 63]) = true := by rw [h5]; decide +kernel
    rw [if_pos h5]
    clear h5
    go_enter Tryz.func146, Tryz.ntmps146
    go_wp2_with fail
    go_ret
    exact ⟨rfl, rfl⟩
  have e5 : (o.toList == [112, 97, 105, 114, 63]) = false := by have h := beqS_ne h5; simpa [ByteArray.toList_eq] using h
  rw [if_neg h5]
  clear h5
  by_cases h6 : o = ⟨#[42]⟩
  · have e6 : (o.toList == [42]) = true := by rw [h6]; decide +kernel
    rw [if_pos h6]
    clear h6
    go_enter Tryz.func146, Tryz.ntmps146
    go_wp2_with fail
    go_ret
    exact ⟨rfl, rfl⟩
  have e6 : (o.toList == [42]) = false := by have h := beqS_ne h6; simpa [ByteArray.toList_eq] using h
  rw [if_neg h6]
  clear h6
  by_cases h7 : o = ⟨#[43]⟩
  · have e7 : (o.toList == [43]) = true := by rw [h7]; decide +kernel
    rw [if_pos h7]
    clear h7
    go_enter Tryz.func146, Tryz.ntmps146
    go_wp2_with fail
    go_ret
    exact ⟨rfl, rfl⟩
  have e7 : (o.toList == [43]) = false := by have h := beqS_ne h7; simpa [ByteArray.toList_eq] using h
  rw [if_neg h7]
  clear h7
  by_cases h8 : o = ⟨#[45]⟩
  · have e8 : (o.toList == [45]) = true := by rw [h8]; decide +kernel
    rw [if_pos h8]
    clear h8
    go_enter Tryz.func146, Tryz.ntmps146
    go_wp2_with fail
    go_ret
    exact ⟨rfl, rfl⟩
  have e8 : (o.toList == [45]) = false := by have h := beqS_ne h8; simpa [ByteArray.toList_eq] using h
  rw [if_neg h8]
  clear h8
  by_cases h9 : o = ⟨#[60]⟩
  · have e9 : (o.toList == [60]) = true := by rw [h9]; decide +kernel
    rw [if_pos h9]
    clear h9
    go_enter Tryz.func146, Tryz.ntmps146
    go_wp2_with fail
    go_ret
    exact ⟨rfl, rfl⟩
  have e9 : (o.toList == [60]) = false := by have h := beqS_ne h9; simpa [ByteArray.toList_eq] using h
  rw [if_neg h9]
  clear h9
  by_cases h10 : o = ⟨#[61]⟩
  · have e10 : (o.toList == [61]) = true := by rw [h10]; decide +kernel
    rw [if_pos h10]
    clear h10
    go_enter Tryz.func146, Tryz.ntmps146
    go_wp2_with fail
    go_ret
    exact ⟨rfl, rfl⟩
  have e10 : (o.toList == [61]) = false := by have h := beqS_ne h10; simpa [ByteArray.toList_eq] using h
  rw [if_neg h10]
  clear h10
  by_cases h11 : o = ⟨#[99, 111, 110, 115]⟩
  · have e11 : (o.toList == [99, 111, 110, 115]) = true := by rw [h11]; decide +kernel
    rw [if_pos h11]
    clear h11
    go_enter Tryz.func146, Tryz.ntmps146
    go_wp2_with fail
    go_ret
    exact ⟨rfl, rfl⟩
  have e11 : (o.toList == [99, 111, 110, 115]) = false := by have h := beqS_ne h11; simpa [ByteArray.toList_eq] using h
  rw [if_neg h11]
  clear h11
  by_cases h12 : o = ⟨#[101, 113, 63]⟩
  · have e12 : (o.toList == [101, 113, 63]) = true := by rw [h12]; decide +kernel
    rw [if_pos h12]
    clear h12
    go_enter Tryz.func146, Tryz.ntmps146
    go_wp2_with fail
    go_ret
    exact ⟨rfl, rfl⟩
  have e12 : (o.toList == [101, 113, 63]) = false := by have h := beqS_ne h12; simpa [ByteArray.toList_eq] using h
  rw [if_neg h12]
  clear h12
  go_enter Tryz.func146, Tryz.ntmps146
  go_wp2_with fail
  go_ret
  exact ⟨rfl, rfl⟩

set_option maxRecDepth 100000 in
set_option maxHeartbeats 1600000 in
theorem mRange_any (n : Int) (w : World) : Calls Tryz.prog 145 #[.int .i64 n] w fun e w' => e = .returned (.bool (decide (-1000000000000000 ≤ n ∧ n ≤ 1000000000000000))) ∧ w' = w := by
  by_cases h0 : -1000000000000000 ≤ n
  · by_cases h1 : n ≤ 1000000000000000
    · go_enter Tryz.func145, Tryz.ntmps145
      go_wp2_with fail
      go_ret
      simp [h0, h1]
    · go_enter Tryz.func145, Tryz.ntmps145
      go_wp2_with fail
      go_ret
      simp [h0, h1]
  · go_enter Tryz.func145, Tryz.ntmps145
    go_wp2_with fail
    go_ret
    simp
    intro h
    omega

set_option maxRecDepth 100000 in
set_option maxHeartbeats 3200000 in
theorem wrongKids_any (k : Int) (n : Nat) (hn : n ≤ 9223372036854775807) (w : World) : Calls Tryz.prog 121 #[.int .i64 k, .int .i64 n] w fun e w' => e = .returned (.int .i64 (wkids k n)) ∧ w' = w := by
  by_cases k1 : k = 1
  · subst k1
    by_cases hc : n = 0
    · rw [show wkids 1 n = 0 by simp [wkids, hc]]
      have hd : ((n : Int) == 0) = true := by simp; omega
      clear hc hn
      go_enter Tryz.func121, Tryz.ntmps121
      go_wp2_with fail
      go_ret
      exact ⟨rfl, rfl⟩
    · rw [show wkids 1 n = 5 by simp [wkids, hc]]
      have hd : ((n : Int) == 0) = false := by simp; omega
      clear hc hn
      go_enter Tryz.func121, Tryz.ntmps121
      go_wp2_with fail
      go_ret
      exact ⟨rfl, rfl⟩
  by_cases k2 : k = 2
  · subst k2
    by_cases hc : n = 0
    · rw [show wkids 2 n = 0 by simp [wkids, hc]]
      have hd : ((n : Int) == 0) = true := by simp; omega
      clear hc hn
      go_enter Tryz.func121, Tryz.ntmps121
      go_wp2_with fail
      go_ret
      exact ⟨rfl, rfl⟩
    · rw [show wkids 2 n = 5 by simp [wkids, hc]]
      have hd : ((n : Int) == 0) = false := by simp; omega
      clear hc hn
      go_enter Tryz.func121, Tryz.ntmps121
      go_wp2_with fail
      go_ret
      exact ⟨rfl, rfl⟩
  by_cases k3 : k = 3
  · subst k3
    by_cases hc : n = 0
    · rw [show wkids 3 n = 0 by simp [wkids, hc]]
      have hd : ((n : Int) == 0) = true := by simp; omega
      clear hc hn
      go_enter Tryz.func121, Tryz.ntmps121
      go_wp2_with fail
      go_ret
      exact ⟨rfl, rfl⟩
    · rw [show wkids 3 n = 5 by simp [wkids, hc]]
      have hd : ((n : Int) == 0) = false := by simp; omega
      clear hc hn
      go_enter Tryz.func121, Tryz.ntmps121
      go_wp2_with fail
      go_ret
      exact ⟨rfl, rfl⟩
  by_cases k4 : k = 4
  · subst k4
    by_cases hc : n = 0
    · rw [show wkids 4 n = 0 by simp [wkids, hc]]
      have hd : ((n : Int) == 0) = true := by simp; omega
      clear hc hn
      go_enter Tryz.func121, Tryz.ntmps121
      go_wp2_with fail
      go_ret
      exact ⟨rfl, rfl⟩
    · rw [show wkids 4 n = 5 by simp [wkids, hc]]
      have hd : ((n : Int) == 0) = false := by simp; omega
      clear hc hn
      go_enter Tryz.func121, Tryz.ntmps121
      go_wp2_with fail
      go_ret
      exact ⟨rfl, rfl⟩
  by_cases k5 : k = 5
  · subst k5
    by_cases hc : n = 0
    · rw [show wkids 5 n = 0 by simp [wkids, hc]]
      have hd : ((n : Int) == 0) = true := by simp; omega
      clear hc hn
      go_enter Tryz.func121, Tryz.ntmps121
      go_wp2_with fail
      go_ret
      exact ⟨rfl, rfl⟩
    · rw [show wkids 5 n = 5 by simp [wkids, hc]]
      have hd : ((n : Int) == 0) = false := by simp; omega
      clear hc hn
      go_enter Tryz.func121, Tryz.ntmps121
      go_wp2_with fail
      go_ret
      exact ⟨rfl, rfl⟩
  by_cases k6 : k = 6
  · subst k6
    by_cases hc : n = 0
    · rw [show wkids 6 n = 0 by simp [wkids, hc]]
      have hd : ((n : Int) == 0) = true := by simp; omega
      clear hc hn
      go_enter Tryz.func121, Tryz.ntmps121
      go_wp2_with fail
      go_ret
      exact ⟨rfl, rfl⟩
    · rw [show wkids 6 n = 5 by simp [wkids, hc]]
      have hd : ((n : Int) == 0) = false := by simp; omega
      clear hc hn
      go_enter Tryz.func121, Tryz.ntmps121
      go_wp2_with fail
      go_ret
      exact ⟨rfl, rfl⟩
  by_cases k8 : k = 8
  · subst k8
    by_cases hc : n = 1
    · rw [show wkids 8 n = 0 by simp [wkids, hc]]
      have hd : ((n : Int) == 1) = true := by simp; omega
      clear hc hn
      go_enter Tryz.func121, Tryz.ntmps121
      go_wp2_with fail
      go_ret
      exact ⟨rfl, rfl⟩
    · rw [show wkids 8 n = 5 by simp [wkids, hc]]
      have hd : ((n : Int) == 1) = false := by simp; omega
      clear hc hn
      go_enter Tryz.func121, Tryz.ntmps121
      go_wp2_with fail
      go_ret
      exact ⟨rfl, rfl⟩
  by_cases k10 : k = 10
  · subst k10
    by_cases hc : n = 1
    · rw [show wkids 10 n = 0 by simp [wkids, hc]]
      have hd : ((n : Int) == 1) = true := by simp; omega
      clear hc hn
      go_enter Tryz.func121, Tryz.ntmps121
      go_wp2_with fail
      go_ret
      exact ⟨rfl, rfl⟩
    · rw [show wkids 10 n = 5 by simp [wkids, hc]]
      have hd : ((n : Int) == 1) = false := by simp; omega
      clear hc hn
      go_enter Tryz.func121, Tryz.ntmps121
      go_wp2_with fail
      go_ret
      exact ⟨rfl, rfl⟩
  by_cases k11 : k = 11
  · subst k11
    by_cases hc : n = 1
    · rw [show wkids 11 n = 0 by simp [wkids, hc]]
      have hd : ((n : Int) == 1) = true := by simp; omega
      clear hc hn
      go_enter Tryz.func121, Tryz.ntmps121
      go_wp2_with fail
      go_ret
      exact ⟨rfl, rfl⟩
    · rw [show wkids 11 n = 5 by simp [wkids, hc]]
      have hd : ((n : Int) == 1) = false := by simp; omega
      clear hc hn
      go_enter Tryz.func121, Tryz.ntmps121
      go_wp2_with fail
      go_ret
      exact ⟨rfl, rfl⟩
  by_cases k13 : k = 13
  · subst k13
    by_cases hc : n = 1
    · rw [show wkids 13 n = 0 by simp [wkids, hc]]
      have hd : ((n : Int) == 1) = true := by simp; omega
      clear hc hn
      go_enter Tryz.func121, Tryz.ntmps121
      go_wp2_with fail
      go_ret
      exact ⟨rfl, rfl⟩
    · rw [show wkids 13 n = 5 by simp [wkids, hc]]
      have hd : ((n : Int) == 1) = false := by simp; omega
      clear hc hn
      go_enter Tryz.func121, Tryz.ntmps121
      go_wp2_with fail
      go_ret
      exact ⟨rfl, rfl⟩
  by_cases k7 : k = 7
  · subst k7
    by_cases hc : n = 3
    · rw [show wkids 7 n = 0 by simp [wkids, hc]]
      have hd : ((n : Int) == 3) = true := by simp; omega
      clear hc hn
      go_enter Tryz.func121, Tryz.ntmps121
      go_wp2_with fail
      go_ret
      exact ⟨rfl, rfl⟩
    · rw [show wkids 7 n = 5 by simp [wkids, hc]]
      have hd : ((n : Int) == 3) = false := by simp; omega
      clear hc hn
      go_enter Tryz.func121, Tryz.ntmps121
      go_wp2_with fail
      go_ret
      exact ⟨rfl, rfl⟩
  by_cases k9 : k = 9
  · subst k9
    by_cases hc : 1 ≤ n
    · rw [show wkids 9 n = 0 by simp [wkids, hc]]
      have hd : (1 : Int) ≤ n := by omega
      clear hc hn
      go_enter Tryz.func121, Tryz.ntmps121
      go_wp2_with fail
      go_ret
      exact ⟨rfl, rfl⟩
    · rw [show wkids 9 n = 5 by simp [wkids, hc]]
      have hd : ¬ (1 : Int) ≤ n := by omega
      clear hc hn
      go_enter Tryz.func121, Tryz.ntmps121
      go_wp2_with fail
      go_ret
      exact ⟨rfl, rfl⟩
  by_cases k12 : k = 12
  · subst k12
    by_cases hc : 1 ≤ n
    · rw [show wkids 12 n = 0 by simp [wkids, hc]]
      have hd : (1 : Int) ≤ n := by omega
      clear hc hn
      go_enter Tryz.func121, Tryz.ntmps121
      go_wp2_with fail
      go_ret
      exact ⟨rfl, rfl⟩
    · rw [show wkids 12 n = 5 by simp [wkids, hc]]
      have hd : ¬ (1 : Int) ≤ n := by omega
      clear hc hn
      go_enter Tryz.func121, Tryz.ntmps121
      go_wp2_with fail
      go_ret
      exact ⟨rfl, rfl⟩
  rw [show wkids k n = 1 by simp [wkids, k1, k2, k3, k4, k5, k6, k8, k10, k11, k13, k7, k9, k12]]
  have j1 : (k == 1) = false := by simpa using k1
  have j2 : (k == 2) = false := by simpa using k2
  have j3 : (k == 3) = false := by simpa using k3
  have j4 : (k == 4) = false := by simpa using k4
  have j5 : (k == 5) = false := by simpa using k5
  have j6 : (k == 6) = false := by simpa using k6
  have j8 : (k == 8) = false := by simpa using k8
  have j10 : (k == 10) = false := by simpa using k10
  have j11 : (k == 11) = false := by simpa using k11
  have j13 : (k == 13) = false := by simpa using k13
  have j7 : (k == 7) = false := by simpa using k7
  have j9 : (k == 9) = false := by simpa using k9
  have j12 : (k == 12) = false := by simpa using k12
  clear k1 k2 k3 k4 k5 k6 k8 k10 k11 k13 k7 k9 k12 hn
  go_enter Tryz.func121, Tryz.ntmps121
  go_wp2_with fail
  go_ret
  exact ⟨rfl, rfl⟩
end
section
set_option linter.unusedVariables false
set_option linter.unusedSimpArgs false
open Go.RowKit

theorem field_fault (x y : Int) (w : World) : (Instr.field 42 (.agg #[.int .i64 x, .int .i64 y]) 0).run Tryz.prog w = .ok (.int .i64 x) w := by
  simp [Instr.field, run_underlying Tryz.underlying42, go_sem, asAgg]

theorem Lies.mono {B B' : Nat} {w : World} (hB : B ≤ B') : ∀ (f : Nat) (a : Option Addr) (ds : List Dat), Lies B w f a ds → Lies B' w f a ds
  | 0, _, _, h => h
  | f + 1, a, ds, h => by
    obtain ⟨hl, h⟩ := h
    refine ⟨hl, ?_⟩
    rcases h with h | ⟨b, o, ha, hb, h⟩
    · exact Or.inl h
    · refine Or.inr ⟨b, o, ha, Nat.lt_of_lt_of_le hb hB, fun i d hd => ?_⟩
      obtain ⟨a', cap, c0, c1, c2, c3, c4, c5, hn, hk⟩ := h i d hd
      exact ⟨a', cap, c0, c1, c2, c3, c4, c5, hn, Lies.mono hB f a' _ hk⟩
/-- One datum in a block of its own. -/
theorem Lies.one {B f : Nat} {w : World} {d : Dat} {a : Option Addr} {cap : Nat} (hB : B ≤ w.heap.size) (h : Lies B w f a d.kids) (hn : d.name.size ≤ maxLen) :
    Lies (w.heap.size + 1) (w.alloc (.cells #[.int .i64 d.kind, .int .i64 d.n, .string d.name, .int .i64 d.stamp, .int .i64 d.lib, .slice a d.kids.length cap] 50)) (f + 1) (some ⟨w.heap.size, 0, none⟩) [d] := by
  have hN := World.alloc_heap_new w (.cells #[.int .i64 d.kind, .int .i64 d.n, .string d.name, .int .i64 d.stamp, .int .i64 d.lib, .slice a d.kids.length cap] 50)
  have hc : ∀ q, (w.alloc (.cells #[.int .i64 d.kind, .int .i64 d.n, .string d.name, .int .i64 d.stamp, .int .i64 d.lib, .slice a d.kids.length cap] 50)).cell? ⟨w.heap.size, q, none⟩ = #[Value.int .i64 d.kind, .int .i64 d.n, .string d.name, .int .i64 d.stamp, .int .i64 d.lib, .slice a d.kids.length cap][q]? := fun q => World.cell?_alloc_mark w _ 50 (0, 0) q
  refine ⟨by simp, Or.inr ⟨w.heap.size, 0, rfl, by omega, ?_⟩⟩
  intro i e he
  cases i with
  | succ i => simp at he
  | zero =>
    simp at he
    subst he
    refine ⟨a, cap, (hc _).trans rfl, (hc _).trans rfl, (hc _).trans rfl, (hc _).trans rfl, (hc _).trans rfl, (hc _).trans rfl, hn, ?_⟩
    have h2 : Lies B (w.alloc (.cells #[.int .i64 d.kind, .int .i64 d.n, .string d.name, .int .i64 d.stamp, .int .i64 d.lib, .slice a d.kids.length cap] 50)) f a d.kids := h.below ((Below.refl _ _).alloc hB _)
    exact Lies.mono (by omega) f a _ h2

set_option maxRecDepth 100000 in
set_option maxHeartbeats 3200000 in
theorem wrongFields_any (B f b o : Nat) (c : Cor) (ar : Int) (w : World) (hc : Cn B w f b o c) (hB : B ≤ w.heap.size) :
    Calls Tryz.prog 122 #[.pointer (some ⟨b, o, none⟩), .int .i64 ar] w fun e w' => e = .returned (.int .i64 (wfields c ar)) ∧ Below w.heap.size w w' := by
  obtain ⟨hb, qa, qc, ka, kc, nc, ok, hq, hk⟩ := hc
  obtain ⟨c0, c1, c2, c3, c4, c5, c6, c7, c8, c9, c10, c11⟩ := nc
  have WR : Hid (Calls Tryz.prog 107 #[.slice (some ⟨w.heap.size, 0, none⟩) 1 1] (w.alloc (.cells #[.int .i64 c.quote.kind, .int .i64 c.quote.n, .string c.quote.name, .int .i64 c.quote.stamp, .int .i64 c.quote.lib, .slice qa c.quote.kids.length qc] 50)) fun e w' => e = .returned (fv (wrong [c.quote])) ∧ Below (w.alloc (.cells #[.int .i64 c.quote.kind, .int .i64 c.quote.n, .string c.quote.name, .int .i64 c.quote.stamp, .int .i64 c.quote.lib, .slice qa c.quote.kids.length qc] 50)).heap.size (w.alloc (.cells #[.int .i64 c.quote.kind, .int .i64 c.quote.n, .string c.quote.name, .int .i64 c.quote.stamp, .int .i64 c.quote.lib, .slice qa c.quote.kids.length qc] 50)) w') := by
    have h5 := Wrong_any (w.heap.size + 1) (f + 1) [c.quote] (some ⟨w.heap.size, 0, none⟩) 1 _ (Lies.one (cap := qc) hB (Dc.lies (fun _ h => h) _ _ _ hq) ok.2.2.1) (by simp)
    exact h5
  have hos := ok.2.1
  clear ok hq hk hb
  obtain ⟨k, i, n, lb, ow, q, ks⟩ := c
  simp only at c0 c1 c2 c3 c4 c5 c6 c7 c8 c9 c10 c11 WR hos
  by_cases k1 : k = 1
  · subst k1
    by_cases hr : -1000000000000000 ≤ n ∧ n ≤ 1000000000000000
    · rw [show wfields ⟨1, i, n, lb, ow, q, ks⟩ ar = 0 by simp [wfields, hr]]
      clear WR
      go_enter Tryz.func122, Tryz.ntmps122
      go_wp2_with fail
      refine (mRange_any n _).mono ?_
      rintro e w1 ⟨rfl, rfl⟩
      rw [show decide (-1000000000000000 ≤ n ∧ n ≤ 1000000000000000) = true by simp [hr]]
      clear hr
      go_wp2_with fail
      go_ret
      exact ⟨rfl, Below.refl _ _⟩
    · rw [show wfields ⟨1, i, n, lb, ow, q, ks⟩ ar = 3 by simp [wfields, hr]]
      clear WR
      go_enter Tryz.func122, Tryz.ntmps122
      go_wp2_with fail
      refine (mRange_any n _).mono ?_
      rintro e w1 ⟨rfl, rfl⟩
      rw [show decide (-1000000000000000 ≤ n ∧ n ≤ 1000000000000000) = false by simp [hr]]
      clear hr
      go_wp2_with fail
      go_ret
      exact ⟨rfl, Below.refl _ _⟩
  by_cases k2 : k = 2
  · subst k2
    by_cases h0 : n = 0
    · rw [show wfields ⟨2, i, n, lb, ow, q, ks⟩ ar = 0 by simp [wfields, h0]]
      subst h0
      clear WR
      go_enter Tryz.func122, Tryz.ntmps122
      go_wp2_with fail
      go_ret
      exact ⟨rfl, Below.refl _ _⟩
    have h0' : (n == 0) = false := by simpa using h0
    by_cases h1 : n = 1
    · rw [show wfields ⟨2, i, n, lb, ow, q, ks⟩ ar = 0 by simp [wfields, h1]]
      subst h1
      clear WR
      go_enter Tryz.func122, Tryz.ntmps122
      go_wp2_with fail
      go_ret
      exact ⟨rfl, Below.refl _ _⟩
    rw [show wfields ⟨2, i, n, lb, ow, q, ks⟩ ar = 3 by simp [wfields, h0, h1]]
    have h1' : (n == 1) = false := by simpa using h1
    clear WR h0 h1
    go_enter Tryz.func122, Tryz.ntmps122
    go_wp2_with fail
    go_ret
    exact ⟨rfl, Below.refl _ _⟩
  by_cases k4 : k = 4
  · subst k4
    by_cases h0 : 0 ≤ i
    · by_cases h1 : i < ar
      · rw [show wfields ⟨4, i, n, lb, ow, q, ks⟩ ar = 0 by simp [wfields, h0, h1]]
        clear WR
        go_enter Tryz.func122, Tryz.ntmps122
        go_wp2_with fail
        go_ret
        exact ⟨rfl, Below.refl _ _⟩
      · rw [show wfields ⟨4, i, n, lb, ow, q, ks⟩ ar = 3 by simp [wfields, h0, h1]]
        clear WR
        go_enter Tryz.func122, Tryz.ntmps122
        go_wp2_with fail
        go_ret
        exact ⟨rfl, Below.refl _ _⟩
    · rw [show wfields ⟨4, i, n, lb, ow, q, ks⟩ ar = 3 by simp [wfields, h0]]
      clear WR
      go_enter Tryz.func122, Tryz.ntmps122
      go_wp2_with fail
      go_ret
      exact ⟨rfl, Below.refl _ _⟩
  by_cases k10 : k = 10
  · subst k10
    by_cases h0 : 0 ≤ i
    · by_cases h1 : i < ar
      · rw [show wfields ⟨10, i, n, lb, ow, q, ks⟩ ar = 0 by simp [wfields, h0, h1]]
        clear WR
        go_enter Tryz.func122, Tryz.ntmps122
        go_wp2_with fail
        go_ret
        exact ⟨rfl, Below.refl _ _⟩
      · rw [show wfields ⟨10, i, n, lb, ow, q, ks⟩ ar = 3 by simp [wfields, h0, h1]]
        clear WR
        go_enter Tryz.func122, Tryz.ntmps122
        go_wp2_with fail
        go_ret
        exact ⟨rfl, Below.refl _ _⟩
    · rw [show wfields ⟨10, i, n, lb, ow, q, ks⟩ ar = 3 by simp [wfields, h0]]
      clear WR
      go_enter Tryz.func122, Tryz.ntmps122
      go_wp2_with fail
      go_ret
      exact ⟨rfl, Below.refl _ _⟩
  by_cases k8 : k = 8
  · subst k8
    by_cases h0 : 0 ≤ i
    · by_cases h1 : i ≤ 2000
      · rw [show wfields ⟨8, i, n, lb, ow, q, ks⟩ ar = 0 by simp [wfields, h0, h1]]
        clear WR
        go_enter Tryz.func122, Tryz.ntmps122
        go_wp2_with fail
        go_ret
        exact ⟨rfl, Below.refl _ _⟩
      · rw [show wfields ⟨8, i, n, lb, ow, q, ks⟩ ar = 3 by simp [wfields, h0, h1]]
        clear WR
        go_enter Tryz.func122, Tryz.ntmps122
        go_wp2_with fail
        go_ret
        exact ⟨rfl, Below.refl _ _⟩
    · rw [show wfields ⟨8, i, n, lb, ow, q, ks⟩ ar = 3 by simp [wfields, h0]]
      clear WR
      go_enter Tryz.func122, Tryz.ntmps122
      go_wp2_with fail
      go_ret
      exact ⟨rfl, Below.refl _ _⟩
  by_cases k6 : k = 6
  · subst k6
    have HA := hidd (argsOf_any ow w)
    clear WR
    by_cases h0 : argsB ow = 0
    · rw [show wfields ⟨6, i, n, lb, ow, q, ks⟩ ar = 7 by simp [wfields, h0]]
      rw [h0] at HA
      clear h0
      go_enter Tryz.func122, Tryz.ntmps122
      go_wp2_with fail
      refine HA.out.mono ?_
      rintro e w1 ⟨rfl, rfl⟩
      go_wp2_with fail
      go_ret
      exact ⟨rfl, Below.refl _ _⟩
    · rw [show wfields ⟨6, i, n, lb, ow, q, ks⟩ ar = 0 by simp [wfields, h0]]
      generalize argsB ow = z at HA h0
      have h0' : (z == 0) = false := by simpa using h0
      clear h0
      go_enter Tryz.func122, Tryz.ntmps122
      go_wp2_with fail
      refine HA.out.mono ?_
      rintro e w1 ⟨rfl, rfl⟩
      go_wp2_with fail
      go_ret
      exact ⟨rfl, Below.refl _ _⟩
  by_cases k3 : k = 3
  · subst k3
    rw [show wfields ⟨3, i, n, lb, ow, q, ks⟩ ar = (wrong [q]).1 by simp [wfields]]
    generalize wrong [q] = y at WR ⊢
    obtain ⟨y1, y2⟩ := y
    unfold fv at WR
    simp only at WR ⊢
    go_enter Tryz.func122, Tryz.ntmps122
    go_wp2_with fail
    refine WR.out.mono ?_
    rintro e w1 ⟨rfl, hb1⟩
    have hb2 := hidd (((Below.refl _ _).alloc (Nat.le_refl _) _).trans (hb1.mono (by simp)))
    have hfl := field_fault y1 y2 w1
    clear hb1 c0 c1 c2 c3 c4 c5 c6 c7 c8 c9 c10 c11
    go_wp2_with fail
    go_ret
    exact ⟨rfl, hb2.out⟩
  rw [show wfields ⟨k, i, n, lb, ow, q, ks⟩ ar = 0 by simp [wfields, k1, k2, k4, k10, k8, k6, k3]]
  have j1 : (k == 1) = false := by simpa using k1
  have j2 : (k == 2) = false := by simpa using k2
  have j4 : (k == 4) = false := by simpa using k4
  have j10 : (k == 10) = false := by simpa using k10
  have j8 : (k == 8) = false := by simpa using k8
  have j6 : (k == 6) = false := by simpa using k6
  have j3 : (k == 3) = false := by simpa using k3
  clear WR k1 k2 k4 k10 k8 k6 k3
  go_enter Tryz.func122, Tryz.ntmps122
  go_wp2_with fail
  go_ret
  exact ⟨rfl, Below.refl _ _⟩
end
section
set_option linter.unusedVariables false
set_option linter.unusedSimpArgs false
open Go.RowKit

set_option maxRecDepth 100000 in
set_option maxHeartbeats 1600000 in
theorem core_deep (p : Option Addr) (ar : Int) (cb n : Nat) (w : World) (hn : n ≤ 3000) (hc : Ctr cb n w) :
    Calls Tryz.prog 99 #[.pointer (some ⟨cb, 0, none⟩), .pointer p, .int .i64 301, .int .i64 ar] w (Told cb (4, n + 1) w) := by
  have c1 := hc.cell
  have f1 := hc.thaw
  have l1 := hc.lt
  have HC : Hid (Ctr cb n w) := hc
  clear hc
  by_cases h : (3000 : Int) < n + 1
  · go_enter Tryz.func99, Tryz.ntmps99
    go_wp2_with fail
    go_ret
    exact ⟨rfl, (Keep.refl _ _).setCell _ rfl _, HC.out.set (n + 1)⟩
  · go_enter Tryz.func99, Tryz.ntmps99
    go_wp2_with fail
    go_ret
    exact ⟨rfl, (Keep.refl _ _).setCell _ rfl _, HC.out.set (n + 1)⟩

set_option maxRecDepth 100000 in
set_option maxHeartbeats 1600000 in
theorem core_much (p : Option Addr) (ar dp : Int) (cb n : Nat) (w : World) (hn : n = 3000) (hc : Ctr cb n w) :
    Calls Tryz.prog 99 #[.pointer (some ⟨cb, 0, none⟩), .pointer p, .int .i64 dp, .int .i64 ar] w (Told cb (4, n + 1) w) := by
  have c1 := hc.cell
  have f1 := hc.thaw
  have l1 := hc.lt
  have HC : Hid (Ctr cb n w) := hc
  clear hc
  subst hn
  go_enter Tryz.func99, Tryz.ntmps99
  go_wp2_with fail
  go_ret
  exact ⟨rfl, (Keep.refl _ _).setCell _ rfl _, HC.out.set (3000 + 1)⟩

set_option maxRecDepth 100000 in
set_option maxHeartbeats 6400000 in
theorem core_step (B F f b o : Nat) (c : Cor) (ar dp : Int) (cb n : Nat) (w : World) (hc : Cn B w f b o c) (hn : n ≤ 2999) (hd0 : 1 ≤ dp) (hd : dp ≤ 300) (ha0 : 0 ≤ ar) (ha : ar ≤ 600000) (hB : B ≤ cb) (hcb : Ctr cb n w)
    (ih : ∀ (g b o : Nat) (c : Cor) (a2 : Int) (n : Nat) (w : World), 0 ≤ a2 → a2 ≤ ar + 2000 → Cn B w g b o c → n ≤ 3000 → Ctr cb n w → Calls Tryz.prog 99 #[.pointer (some ⟨cb, 0, none⟩), .pointer (some ⟨b, o, none⟩), .int .i64 (dp + 1), .int .i64 a2] w (Told cb (ckC F a2 c n) w)) :
    Calls Tryz.prog 99 #[.pointer (some ⟨cb, 0, none⟩), .pointer (some ⟨b, o, none⟩), .int .i64 dp, .int .i64 ar] w (Told cb
      (if wkids c.kind c.kids.length = 0 then (if wfields c ar = 0 then ckL (ckC F (if c.kind = 8 then ar + c.index else ar)) c.kids (n + 1) else (wfields c ar, n + 1)) else (wkids c.kind c.kids.length, n + 1)) w) := by
  have IH := hidd ih
  have HN := hidd hc
  obtain ⟨hbB, qa, qc, ka, kc, nc, ok, hq, hk⟩ := hc
  have c0' := nc.c0
  have c11' := nc.c11
  have hlen0 := hk.len
  have c1 := hcb.cell
  have f1 := hcb.thaw
  have l1 := hcb.lt
  have hbW0 : b < w.heap.size := by omega
  have hbc : b ≠ cb := by omega
  have hBw : B ≤ w.heap.size := by omega
  have HCB := hidd hcb
  clear hcb ih nc ok hq hk
  obtain ⟨k, i, nn, lb, ow, q, ks⟩ := c
  simp only at c0' c11' hlen0 ⊢
  have WK : Hid (∀ W, Calls Tryz.prog 121 #[.int .i64 k, .int .i64 ks.length] W fun e w' => e = .returned (.int .i64 (wkids k ks.length)) ∧ Below W.heap.size W w') := fun W => (wrongKids_any k ks.length hlen0 W).mono (by rintro e w' ⟨rfl, rfl⟩; exact ⟨rfl, Below.refl _ _⟩)
  obtain ⟨r, hr⟩ : ∃ r, r = (if wkids k ks.length = 0 then (if wfields ⟨k, i, nn, lb, ow, q, ks⟩ ar = 0 then ckL (ckC F (if k = 8 then ar + i else ar)) ks (n + 1) else (wfields ⟨k, i, nn, lb, ow, q, ks⟩ ar, n + 1)) else (wkids k ks.length, n + 1)) := ⟨_, rfl⟩
  rw [← hr]
  have HR := hidd hr
  clear hr
  generalize wkids k ks.length = y at WK HR
  go_enter Tryz.func99, Tryz.ntmps99
  go_upto_region 4 with fail
  have KW : Hid (Keep cb w (w.setCell ⟨cb, 0, none⟩ (.int .i64 ((n + 1 : Nat) : Int))) ∧ Ctr cb (n + 1) (w.setCell ⟨cb, 0, none⟩ (.int .i64 ((n + 1 : Nat) : Int)))) := ⟨(Keep.refl _ _).setCell _ rfl _, HCB.out.set (n + 1)⟩
  have hbW : b < (w.setCell ⟨cb, 0, none⟩ (.int .i64 ((n + 1 : Nat) : Int))).heap.size := Nat.lt_of_lt_of_le hbW0 KW.out.1.size
  have c0 : (w.setCell ⟨cb, 0, none⟩ (.int .i64 ((n + 1 : Nat) : Int))).cell? ⟨b, o, none⟩ = some (.int .i64 k) := (KW.out.1.cell (p := ⟨b, o, none⟩) hbW0 hbc).trans c0'
  have c11 : (w.setCell ⟨cb, 0, none⟩ (.int .i64 ((n + 1 : Nat) : Int))).cell? ⟨b, o + 11, none⟩ = some (.slice ka ks.length kc) := (KW.out.1.cell (p := ⟨b, o + 11, none⟩) hbW0 hbc).trans c11'
  clear c0' c11' c1 f1 HCB
  rw [show ((n : Int) + 1) = ((n + 1 : Nat) : Int) by omega]
  generalize w.setCell ⟨cb, 0, none⟩ (.int .i64 ((n + 1 : Nat) : Int)) = W0 at KW hbW c0 c11 ⊢
  refine wp_region_held_drew (S := fun u => Below W0.heap.size W0 u) (by kernel_rfl) (Below.drew (Below.refl _ _)) (fun hS => ?_)
  refine wpAnyH_take (i := 0) (oi := { dst := some 29, op := Op.move (Operand.tmp 1), type := 129, pos := _, after := _, guard := none }) (v := .pointer (some ⟨b, o, none⟩)) rfl (by kernel_rfl) (by kernel_rfl) (by kernel_rfl) (fun _ _ _ h => h) (Or.inl ⟨by rfl, fun u hu => by go_simp⟩) hS ?_
  simp only [Act.put, List.setIfInBounds_toArray, List.set_cons_zero, List.set_cons_succ]
  refine wpAnyH_take (i := 1) (oi := { dst := some 30, op := Op.nilCheck (Operand.tmp 29), type := 0, pos := _, after := _, guard := none }) (v := .pointer (some ⟨b, o, none⟩)) rfl (by kernel_rfl) (by kernel_rfl) (by kernel_rfl) (fun _ _ _ h => h) (Or.inl ⟨by rfl, fun u hu => by go_simp⟩) hS ?_
  simp only [Act.put, List.setIfInBounds_toArray, List.set_cons_zero, List.set_cons_succ]
  refine wpAnyH_take (i := 2) (oi := { dst := some 31, op := Op.fieldAddr 90 (Operand.tmp 30) 0, type := 0, pos := _, after := _, guard := none }) (v := .pointer (some ⟨b, o, none⟩)) rfl (by kernel_rfl) (by kernel_rfl) (by kernel_rfl) (fun _ _ _ h => h) (Or.inl ⟨by rfl, fun u hu => by go_simp⟩) hS ?_
  simp only [Act.put, List.setIfInBounds_toArray, List.set_cons_zero, List.set_cons_succ]
  refine wpAnyH_take (i := 3) (oi := { dst := some 32, op := Op.load 3 (Operand.tmp 31), type := 3, pos := _, after := _, guard := none }) (v := .int .i64 k) rfl (by kernel_rfl) (by kernel_rfl) (by kernel_rfl) (fun _ _ _ h => h) (Or.inl ⟨by rfl, fun u hu => by (have z := (hu.cell (p := ⟨b, o, none⟩) hbW).trans c0; go_simp)⟩) hS ?_
  simp only [Act.put, List.setIfInBounds_toArray, List.set_cons_zero, List.set_cons_succ]
  refine wpAnyH_take (i := 4) (oi := { dst := some 33, op := Op.move (Operand.tmp 1), type := 129, pos := _, after := _, guard := none }) (v := .pointer (some ⟨b, o, none⟩)) rfl (by kernel_rfl) (by kernel_rfl) (by kernel_rfl) (fun _ _ _ h => h) (Or.inl ⟨by rfl, fun u hu => by go_simp⟩) hS ?_
  simp only [Act.put, List.setIfInBounds_toArray, List.set_cons_zero, List.set_cons_succ]
  refine wpAnyH_take (i := 5) (oi := { dst := some 34, op := Op.nilCheck (Operand.tmp 33), type := 0, pos := _, after := _, guard := none }) (v := .pointer (some ⟨b, o, none⟩)) rfl (by kernel_rfl) (by kernel_rfl) (by kernel_rfl) (fun _ _ _ h => h) (Or.inl ⟨by rfl, fun u hu => by go_simp⟩) hS ?_
  simp only [Act.put, List.setIfInBounds_toArray, List.set_cons_zero, List.set_cons_succ]
  refine wpAnyH_take (i := 6) (oi := { dst := some 35, op := Op.fieldAddr 90 (Operand.tmp 34) 6, type := 0, pos := _, after := _, guard := none }) (v := .pointer (some ⟨b, o + 11, none⟩)) rfl (by kernel_rfl) (by kernel_rfl) (by kernel_rfl) (fun _ _ _ h => h) (Or.inl ⟨by rfl, fun u hu => by go_simp⟩) hS ?_
  simp only [Act.put, List.setIfInBounds_toArray, List.set_cons_zero, List.set_cons_succ]
  refine wpAnyH_take (i := 7) (oi := { dst := some 36, op := Op.load 37 (Operand.tmp 35), type := 37, pos := _, after := _, guard := none }) (v := .slice ka ks.length kc) rfl (by kernel_rfl) (by kernel_rfl) (by kernel_rfl) (fun _ _ _ h => h) (Or.inl ⟨by rfl, fun u hu => by (have z := (hu.cell (p := ⟨b, o + 11, none⟩) hbW).trans c11; go_simp)⟩) hS ?_
  simp only [Act.put, List.setIfInBounds_toArray, List.set_cons_zero, List.set_cons_succ]
  refine wpAnyH_take (i := 8) (oi := { dst := some 37, op := Op.call { callee := Callee.builtin Builtin.len, args := #[Operand.tmp 36], argTypes := #[37] }, type := 3, pos := _, after := _, guard := none }) (v := .int .i64 ks.length) rfl (by kernel_rfl) (by kernel_rfl) (by kernel_rfl) (fun _ _ _ h => h) (Or.inl ⟨by rfl, fun u hu => by go_simp⟩) hS ?_
  simp only [Act.put, List.setIfInBounds_toArray, List.set_cons_zero, List.set_cons_succ]
  refine wpAnyH_ready (rs := [9]) (by kernel_rfl) (by simp) (AllReadyH.cons (o := { dst := some 38, op := Op.call { callee := Callee.value (Operand.func 121), args := #[Operand.tmp 32, Operand.tmp 37], argTypes := #[3, 3] }, type := 26, pos := _, after := _, guard := none }) rfl (fun K hK => ?_) AllReadyH.nil)
  go_simp
  refine Calls.mono (WK.out W0.drew) ?_
  rintro e W1 ⟨rfl, hb1⟩
  have hS1 := hS.trans (hb1.mono hS.size)
  clear hb1
  show K _ W1
  refine hK.out _ _ hS1 (fun hS => ?_)
  clear hK K
  refine wpAnyH_take (i := 10) (oi := { dst := some 9, op := Op.assign (Operand.tmp 38), type := 26, pos := _, after := _, guard := none }) (v := .int .i64 y) rfl (by kernel_rfl) (by kernel_rfl) (by kernel_rfl) (fun _ _ _ h => h) (Or.inl ⟨by rfl, fun u hu => by go_simp⟩) hS ?_
  simp only [Act.put, List.setIfInBounds_toArray, List.set_cons_zero, List.set_cons_succ]
  refine wpAnyH_done (by kernel_rfl) ?_ _
  have HK1 : Hid (Keep cb w W1) := Keep.below (KW.out.1) hS
  have HC1 : Hid (Ctr cb (n + 1) W1) := KW.out.2.below hS
  clear hS KW c0 c11 WK
  by_cases hy : y = 0
  case neg =>
    have hy' : (y != 0) = true := by simpa using hy
    have hre := HR.out
    rw [if_neg hy] at hre
    subst hre
    clear HN IH hy HR
    go_wp2_with fail
    go_ret
    exact ⟨rfl, HK1.out, HC1.out⟩
  rw [if_pos hy] at HR
  subst hy
  have CN1 : Hid (Cn B W1 f b o ⟨k, i, nn, lb, ow, q, ks⟩) := HN.out.below (HK1.out.toBelow hB (by omega))
  have l1 := HC1.out.lt
  have WF : Hid (Calls Tryz.prog 122 #[.pointer (some ⟨b, o, none⟩), .int .i64 ar] W1 fun e w' => e = .returned (.int .i64 (wfields ⟨k, i, nn, lb, ow, q, ks⟩ ar)) ∧ Below W1.heap.size W1 w') := wrongFields_any B f b o _ ar W1 CN1.out (by omega)
  have HF : Hid (k = 8 → wfields ⟨k, i, nn, lb, ow, q, ks⟩ ar = 0 → 0 ≤ i ∧ i ≤ 2000) := by
    intro h8 h0
    subst h8
    simp [wfields] at h0
    exact h0
  generalize wfields ⟨k, i, nn, lb, ow, q, ks⟩ ar = z at WF HF HR
  go_wp2_with fail
  refine WF.out.mono ?_
  rintro e w2 ⟨rfl, hb2⟩
  have HK2 : Hid (Keep cb w w2) := HK1.out.below hb2
  have HC2 : Hid (Ctr cb (n + 1) w2) := HC1.out.below hb2
  clear hb2 WF HK1 HC1 CN1
  by_cases hz : z = 0
  case neg =>
    have hz' : (z != 0) = true := by simpa using hz
    have hre := HR.out
    rw [if_neg hz] at hre
    subst hre
    clear HN IH hz HF HR
    go_wp2_with fail
    go_ret
    exact ⟨rfl, HK2.out, HC2.out⟩
  rw [if_pos hz] at HR
  subst hz
  have CN2 : Hid (Cn B w2 f b o ⟨k, i, nn, lb, ow, q, ks⟩) := HN.out.below (HK2.out.toBelow hB (by omega))
  obtain ⟨_, qa2, qc2, ka2, kc2, nc2, ok2, hq2, hk2⟩ := CN2.out
  have c0 := nc2.c0
  have c1 := nc2.c1
  have c11 := nc2.c11
  simp only at c0 c1 c11
  have hlen := hk2.len
  simp only at hlen
  have ECK : Hid (∀ j m, j ≤ ks.length → m ≤ 3000 → True) := fun _ _ _ _ => trivial
  clear nc2 ok2 hq2 hk2 ECK
  have HN0 := HN
  clear HN
  by_cases h8 : k = 8
  · subst h8
    have hi := HF.out rfl rfl
    clear HF
    rw [if_pos rfl] at HR
    go_wp2_with fail
    go_loopw [64] (fun ix wr => ∃ j m : Nat, j ≤ ks.length ∧ m ≤ 3000 ∧ ix = .int .i64 j ∧ Keep cb w wr ∧ Ctr cb m wr ∧ ckL (ckC F (ar + i)) ks (n + 1) = ckL (ckC F (ar + i)) (ks.drop j) m) (fun ix _ => ks.length - (intOf ix).toNat)
    case atStart => exact ⟨0, n + 1, Nat.zero_le _, by omega, rfl, HK2.out, HC2.out, rfl⟩
    case round =>
      clear c0 c1 c11
      obtain ⟨j, m, hj, hm, rfl, hkr, hcr, he⟩ := hrel
      have HEQ := hidd he
      have HKr : Hid (Keep cb w wr ∧ Ctr cb m wr) := ⟨hkr, hcr⟩
      have CNr := hidd (HN0.out.below (hkr.toBelow hB hBw))
      clear he hkr hcr
      by_cases hlt : j < ks.length
      · obtain ⟨kid, hkid⟩ : ∃ kid, ks[j]? = some kid := ⟨ks[j], List.getElem?_eq_getElem hlt⟩
        have hne : ks ≠ [] := by intro e; rw [e] at hlt; simp at hlt
        obtain ⟨_, qar, qcr, kar, kcr, ncr, okr, hqr, hkr⟩ := CNr.out
        obtain ⟨g', b', o', hg, ha, hall⟩ := hkr.at hne
        subst ha
        have cr11 := ncr.c11
        simp only at cr11
        have hkc : ks.length ≤ kcr := okr.2.2.2.2
        have HKid := hidd (hall j kid hkid)
        have HK := hidd hkid
        clear hkid hall hkr hqr ncr okr hne
        go_wp2_with fail
        refine (IH.out g' b' (o' + j * 12) kid (ar + i) m wr (by omega) (by omega) HKid.out hm HKr.out.2).mono ?_
        rintro e w3 ⟨rfl, hk3, hc3⟩
        have HK3 : Hid (Keep cb w w3) := HKr.out.1.trans hk3
        have HC3 := hidd hc3
        have HM : Hid ((ckC F (ar + i) kid m).1 = 0 → (ckC F (ar + i) kid m).2 ≤ 3000) := ckC_le F _ kid m hm
        have H1 : Hid ((ckC F (ar + i) kid m).1 = 0 → ckL (ckC F (ar + i)) ks (n + 1) = ckL (ckC F (ar + i)) (ks.drop (j + 1)) (ckC F (ar + i) kid m).2) := fun h => HEQ.out.trans (ckL_drop _ _ _ _ _ HK.out h)
        have H2 : Hid ((ckC F (ar + i) kid m).1 ≠ 0 → ckL (ckC F (ar + i)) ks (n + 1) = ckC F (ar + i) kid m) := fun h => HEQ.out.trans (ckL_bad _ _ _ _ _ HK.out h)
        clear hk3 hc3 HK HKid HKr IH HEQ CNr cr11 HN0 CN2 HK2 HC2
        generalize ckC F (ar + i) kid m = yy at HC3 HM H1 H2 ⊢
        obtain ⟨y1, y2⟩ := yy
        simp only at HC3 HM H1 H2 ⊢
        by_cases y0 : y1 = 0
        · subst y0
          go_wp2_with fail
          go_roundw
          case rel => exact ⟨j + 1, y2, by omega, HM.out rfl, by go_num, HK3.out, HC3.out, H1.out rfl⟩
          case measure => simp [intOf]; omega
        · have y0' : (y1 != 0) = true := by simpa using y0
          go_wp2_with fail
          go_ret
          refine ⟨?_, HK3.out, ?_⟩
          · rw [HR.out, H2.out y0]; rfl
          · rw [HR.out, H2.out y0]; exact HC3.out
      · obtain rfl : j = ks.length := by omega
        rw [List.drop_length] at HEQ
        clear IH CNr HN0 CN2
        go_wp2_with fail
        go_ret
        refine ⟨?_, HKr.out.1, ?_⟩
        · rw [HR.out, HEQ.out]; rfl
        · rw [HR.out, HEQ.out]; exact HKr.out.2
  · have h8' : (k == 8) = false := by simpa using h8
    rw [if_neg h8] at HR
    clear HF h8
    go_wp2_with fail
    go_loopw [64] (fun ix wr => ∃ j m : Nat, j ≤ ks.length ∧ m ≤ 3000 ∧ ix = .int .i64 j ∧ Keep cb w wr ∧ Ctr cb m wr ∧ ckL (ckC F (ar)) ks (n + 1) = ckL (ckC F (ar)) (ks.drop j) m) (fun ix _ => ks.length - (intOf ix).toNat)
    case atStart => exact ⟨0, n + 1, Nat.zero_le _, by omega, rfl, HK2.out, HC2.out, rfl⟩
    case round =>
      clear c0 c1 c11
      obtain ⟨j, m, hj, hm, rfl, hkr, hcr, he⟩ := hrel
      have HEQ := hidd he
      have HKr : Hid (Keep cb w wr ∧ Ctr cb m wr) := ⟨hkr, hcr⟩
      have CNr := hidd (HN0.out.below (hkr.toBelow hB hBw))
      clear he hkr hcr
      by_cases hlt : j < ks.length
      · obtain ⟨kid, hkid⟩ : ∃ kid, ks[j]? = some kid := ⟨ks[j], List.getElem?_eq_getElem hlt⟩
        have hne : ks ≠ [] := by intro e; rw [e] at hlt; simp at hlt
        obtain ⟨_, qar, qcr, kar, kcr, ncr, okr, hqr, hkr⟩ := CNr.out
        obtain ⟨g', b', o', hg, ha, hall⟩ := hkr.at hne
        subst ha
        have cr11 := ncr.c11
        simp only at cr11
        have hkc : ks.length ≤ kcr := okr.2.2.2.2
        have HKid := hidd (hall j kid hkid)
        have HK := hidd hkid
        clear hkid hall hkr hqr ncr okr hne
        go_wp2_with fail
        refine (IH.out g' b' (o' + j * 12) kid (ar) m wr (by omega) (by omega) HKid.out hm HKr.out.2).mono ?_
        rintro e w3 ⟨rfl, hk3, hc3⟩
        have HK3 : Hid (Keep cb w w3) := HKr.out.1.trans hk3
        have HC3 := hidd hc3
        have HM : Hid ((ckC F (ar) kid m).1 = 0 → (ckC F (ar) kid m).2 ≤ 3000) := ckC_le F _ kid m hm
        have H1 : Hid ((ckC F (ar) kid m).1 = 0 → ckL (ckC F (ar)) ks (n + 1) = ckL (ckC F (ar)) (ks.drop (j + 1)) (ckC F (ar) kid m).2) := fun h => HEQ.out.trans (ckL_drop _ _ _ _ _ HK.out h)
        have H2 : Hid ((ckC F (ar) kid m).1 ≠ 0 → ckL (ckC F (ar)) ks (n + 1) = ckC F (ar) kid m) := fun h => HEQ.out.trans (ckL_bad _ _ _ _ _ HK.out h)
        clear hk3 hc3 HK HKid HKr IH HEQ CNr cr11 HN0 CN2 HK2 HC2
        generalize ckC F (ar) kid m = yy at HC3 HM H1 H2 ⊢
        obtain ⟨y1, y2⟩ := yy
        simp only at HC3 HM H1 H2 ⊢
        by_cases y0 : y1 = 0
        · subst y0
          go_wp2_with fail
          go_roundw
          case rel => exact ⟨j + 1, y2, by omega, HM.out rfl, by go_num, HK3.out, HC3.out, H1.out rfl⟩
          case measure => simp [intOf]; omega
        · have y0' : (y1 != 0) = true := by simpa using y0
          go_wp2_with fail
          go_ret
          refine ⟨?_, HK3.out, ?_⟩
          · rw [HR.out, H2.out y0]; rfl
          · rw [HR.out, H2.out y0]; exact HC3.out
      · obtain rfl : j = ks.length := by omega
        rw [List.drop_length] at HEQ
        clear IH CNr HN0 CN2
        go_wp2_with fail
        go_ret
        refine ⟨?_, HKr.out.1, ?_⟩
        · rw [HR.out, HEQ.out]; rfl
        · rw [HR.out, HEQ.out]; exact HKr.out.2
end
section
set_option linter.unusedVariables false
set_option linter.unusedSimpArgs false
open Go.RowKit

set_option maxRecDepth 100000 in
/-- WHAT THE CHECKER SAYS of an expression. -/
theorem core_any (B cb : Nat) (hB : B ≤ cb) : ∀ (F : Nat), F ≤ 300 → ∀ (g b o : Nat) (c : Cor) (ar : Int) (n : Nat) (w : World), 0 ≤ ar → ar ≤ 2000 * (300 - (F : Int)) → Cn B w g b o c → n ≤ 3000 → Ctr cb n w →
    Calls Tryz.prog 99 #[.pointer (some ⟨cb, 0, none⟩), .pointer (some ⟨b, o, none⟩), .int .i64 (301 - (F : Int)), .int .i64 ar] w (Told cb (ckC F ar c n) w)
  | 0, _, g, b, o, c, ar, n, w, _, _, _, hn, hc => by
    rw [show (301 : Int) - ((0 : Nat) : Int) = 301 from rfl, ckC]
    exact core_deep _ ar cb n w hn hc
  | F + 1, hF, g, b, o, c, ar, n, w, h0, h1, hcn, hn, hc => by
    unfold ckC
    by_cases h : 3000 < n + 1
    · rw [if_pos h]
      exact core_much _ ar _ cb n w (by omega) hc
    · rw [if_neg h]
      refine core_step B F g b o c ar _ cb n w hcn (by omega) (by omega) (by omega) h0 (by omega) hB hc ?_
      intro g b o c a2 n w ha ha2 hcn hn hc
      have := core_any B cb hB F (by omega) g b o c a2 n w ha (by omega) hcn hn hc
      rw [show 301 - ((F + 1 : Nat) : Int) + 1 = 301 - (F : Int) from by omega]
      exact this

theorem ckB_drop (l : List Cor) (i : Nat) (c : Cor) (h : l[i]? = some c) (h0 : (ckC 300 0 c 0).1 = 0) : ckB (l.drop i) = ckB (l.drop (i + 1)) := by
  obtain ⟨hi, e⟩ := List.getElem?_eq_some_iff.1 h
  rw [List.drop_eq_getElem_cons hi, e]
  show (if (ckC 300 0 c 0).1 = 0 then _ else _) = _
  rw [if_pos h0]
theorem ckB_bad (l : List Cor) (i : Nat) (c : Cor) (h : l[i]? = some c) (h0 : (ckC 300 0 c 0).1 ≠ 0) : ckB (l.drop i) = (ckC 300 0 c 0).1 := by
  obtain ⟨hi, e⟩ := List.getElem?_eq_some_iff.1 h
  rw [List.drop_eq_getElem_cons hi, e]
  show (if (ckC 300 0 c 0).1 = 0 then _ else _) = _
  rw [if_neg h0]
theorem Ctr.new (w : World) : Ctr w.heap.size 0 (w.alloc (.cells #[.int .i64 0] 161)) :=
  ⟨by simp, (World.cell?_alloc_mark w _ 161 (0, 0) 0).trans rfl, by
    have h := World.alloc_heap_new w (.cells #[.int .i64 0] 161)
    unfold World.frozen?
    simp only
    rw [h]
    rfl⟩

/-- A part's box, and what lies below. -/
structure Pb (w : World) (nm : ByteArray) (a : Option Addr) (len cap : Nat) (W : World) : Prop where
  old : Below w.heap.size w W
  lt : w.heap.size < W.heap.size
  box : W.heap[w.heap.size]? = some (.cells #[.string nm, .slice a len cap] 39 (0, 0))
theorem Pb.start (w : World) (nm : ByteArray) (a : Option Addr) (len cap : Nat) : Pb w nm a len cap (w.alloc (.cells #[.string nm, .slice a len cap] 39)) :=
  ⟨(Below.refl _ _).alloc (Nat.le_refl _) _, by simp, World.alloc_heap_new w _⟩
theorem Pb.next {w : World} {nm : ByteArray} {a : Option Addr} {len cap : Nat} {W W' : World} (h : Pb w nm a len cap W) (hb : Below W.heap.size W W') : Pb w nm a len cap W' :=
  ⟨h.old.trans (hb.mono (by have := h.lt; omega)), Nat.lt_of_lt_of_le h.lt hb.size, (hb.block _ h.lt).trans h.box⟩

set_option maxRecDepth 100000 in
set_option maxHeartbeats 3200000 in
theorem wrongPart_any (B g : Nat) (nm : ByteArray) (l : List Cor) (a : Option Addr) (cap : Nat) (w : World) (hl : Cc B w g a l) (hB : B ≤ w.heap.size) (hcap : l.length ≤ cap) :
    Calls Tryz.prog 67 #[.agg #[.string nm, .slice a l.length cap]] w fun e w' => e = .returned (.int .i64 (wrongB l)) ∧ Below w.heap.size w w' := by
  have hlen := hl.len
  have HL := hidd hl
  clear hl
  have HP := hidd (Pb.start w nm a l.length cap)
  by_cases h2 : 200 < l.length
  · rw [show wrongB l = 5 by unfold wrongB; rw [if_pos h2]]
    go_enter Tryz.func67, Tryz.ntmps67
    go_wp2_with fail
    go_ret
    exact ⟨rfl, HP.out.old⟩
  have HW : Hid (wrongB l = ckB l) := by unfold wrongB; rw [if_neg h2]; rfl
  generalize wrongB l = y at HW ⊢
  go_enter Tryz.func67, Tryz.ntmps67
  go_wp2_with fail
  go_loopw [13] (fun i wr => ∃ j : Nat, j ≤ l.length ∧ i = .int .i64 j ∧ Hid (Pb w nm a l.length cap wr) ∧ Hid (y = ckB (l.drop j))) (fun i _ => l.length - (intOf i).toNat)
  case atStart => exact ⟨0, Nat.zero_le _, rfl, HP.out, HW.out⟩
  case round =>
    clear HP HW
    obtain ⟨j, hj, rfl, HP, HY⟩ := hrel
    have hcl : wr.cell? ⟨w.heap.size, 1, none⟩ = some (.slice a l.length cap) := by simp [World.cell?, HP.out.box]
    by_cases hlt : j < l.length
    · obtain ⟨c, hc⟩ : ∃ c, l[j]? = some c := ⟨l[j], List.getElem?_eq_getElem hlt⟩
      have hne : l ≠ [] := by intro e; rw [e] at hlt; simp at hlt
      have ba : Below wr.heap.size wr (wr.alloc (.cells #[.int .i64 0] 161)) := (Below.refl _ _).alloc (Nat.le_refl _) _
      have hlw := HP.out.lt
      have hLr : Cc B (wr.alloc (.cells #[.int .i64 0] 161)) g a l := HL.out.below ((HP.out.old.trans (ba.mono (by omega))).mono hB)
      obtain ⟨g', b, o, hg, ha, hall⟩ := hLr.at hne
      subst ha
      have CT := hidd (Ctr.new wr)
      have HK := hidd (hall j c hc)
      have HC := hidd hc
      have HP2 := hidd (HP.out.next ba)
      clear hall hLr hc hne ba
      go_wp2_with fail
      refine (core_any B wr.heap.size (by omega) 300 (Nat.le_refl _) g' b (o + j * 12) c 0 0 _ (Int.le_refl _) (by omega) HK.out (by omega) CT.out).mono ?_
      rintro e w2 ⟨rfl, hk2, hc2⟩
      have HP3 : Hid (Pb w nm (some ⟨b, o, none⟩) l.length cap w2) := ⟨HP2.out.old.trans ((hk2.toBelow (Nat.le_refl _) (by simp)).mono (by omega)), Nat.lt_of_lt_of_le HP2.out.lt hk2.size, (hk2.block _ HP2.out.lt (by simp; omega)).trans HP2.out.box⟩
      have H1 : Hid ((ckC 300 0 c 0).1 = 0 → y = ckB (l.drop (j + 1))) := fun h => HY.out.trans (ckB_drop _ _ _ HC.out h)
      have H2 : Hid ((ckC 300 0 c 0).1 ≠ 0 → y = (ckC 300 0 c 0).1) := fun h => HY.out.trans (ckB_bad _ _ _ HC.out h)
      clear hk2 hc2 HK HC HP2 CT HY HL hcl HP
      generalize (ckC 300 0 c 0).1 = z at H1 H2 ⊢
      by_cases z0 : z = 0
      · subst z0
        go_wp2_with fail
        go_roundw
        case rel => exact ⟨j + 1, by omega, by go_num, HP3.out, H1.out (by trivial)⟩
        case measure => simp [intOf]; omega
      · have z0' : (z != 0) = true := by simpa using z0
        go_wp2_with fail
        go_ret
        exact ⟨by rw [H2.out z0]; rfl, HP3.out.old⟩
    · obtain rfl : j = l.length := by omega
      rw [List.drop_length] at HY
      clear HL
      go_wp2_with fail
      go_ret
      exact ⟨by rw [HY.out]; rfl, HP.out.old⟩
end
section
set_option linter.unusedVariables false
set_option linter.unusedSimpArgs false
open Go.RowKit

/-- An answer's block is as it was made. -/
structure Af (w wr : World) : Prop where
  below : Below w.heap.size w wr
  lt : w.heap.size < wr.heap.size
  box : wr.heap[w.heap.size]? = some (.cells #[.int .i64 0, .int .i64 0] 42 (0, 0))
theorem Af.start (w : World) : Af w (w.alloc (.cells #[.int .i64 0, .int .i64 0] 42)) := ⟨(Below.refl _ _).alloc (Nat.le_refl _) _, by simp, World.alloc_heap_new w _⟩
theorem Af.next {w W W' : World} (h : Af w W) (hb : Below W.heap.size W W') : Af w W' :=
  ⟨h.below.trans (hb.mono (by have := h.lt; omega)), Nat.lt_of_lt_of_le h.lt hb.size, (hb.block _ h.lt).trans h.box⟩
theorem Af.set {w W : World} (h : Af w W) (x y : Int) : Below w.heap.size w ((W.setCell ⟨w.heap.size, 0, none⟩ (.int .i64 x)).setCell ⟨w.heap.size, 1, none⟩ (.int .i64 y)) :=
  (h.below.setCell (p := ⟨w.heap.size, 0, none⟩) (Nat.le_refl _) _).setCell (p := ⟨w.heap.size, 1, none⟩) (Nat.le_refl _) _

set_option maxRecDepth 100000 in
set_option maxHeartbeats 3200000 in
theorem Wrong1 (B g N : Nat) (nm : ByteArray) (l : List Cor) (a : Option Addr) (cap : Nat) (w : World) (hl : Cc B w g a l) (hB : B ≤ w.heap.size) (hcap : l.length ≤ cap)
    (hN : w.heap[N]? = some (.cells #[.string nm, .slice a l.length cap] 39 (0, 0))) :
    Calls Tryz.prog 40 #[.slice (some ⟨N, 0, none⟩) 1 1] w fun e w' => e = .returned (fv (wrongB l, 0)) ∧ Below w.heap.size w w' := by
  have hNl : N < w.heap.size := (Array.getElem?_eq_some_iff.1 hN).1
  have c0 : w.cell? ⟨N, 0, none⟩ = some (.string nm) := by simp [World.cell?, hN]
  have c1 : w.cell? ⟨N, 1, none⟩ = some (.slice a l.length cap) := by simp [World.cell?, hN]
  have WP : Hid (∀ W, Below w.heap.size w W → Calls Tryz.prog 67 #[.agg #[.string nm, .slice a l.length cap]] W fun e w' => e = .returned (.int .i64 (wrongB l)) ∧ Below W.heap.size W w') := fun W hb => wrongPart_any B g nm l a cap W (hl.below (hb.mono hB)) (Nat.le_trans hB hb.size) hcap
  have HA := hidd (Af.start w)
  have hlen := hl.len
  clear hl hB hN
  generalize wrongB l = y at WP ⊢
  go_enter Tryz.func40, Tryz.ntmps40
  go_wp2_with fail
  go_loopw [12] (fun i wr => ∃ j : Nat, j ≤ 1 ∧ i = .int .i64 j ∧ Hid (Af w wr) ∧ Hid (j = 1 → y = 0)) (fun i _ => 1 - (intOf i).toNat)
  case atStart => exact ⟨0, by omega, rfl, HA.out, fun h => by cases h⟩
  case round =>
    clear HA
    obtain ⟨j, hj, rfl, HA, HY⟩ := hrel
    by_cases hlt : j < 1
    · obtain rfl : j = 0 := by omega
      have d0 := (HA.out.below.cell (p := ⟨N, 0, none⟩) hNl).trans c0
      have d1 := (HA.out.below.cell (p := ⟨N, 1, none⟩) hNl).trans c1
      have ba : Below wr.heap.size wr (wr.alloc (.cells #[.string nm, .slice a l.length cap] 39)) := (Below.refl _ _).alloc (Nat.le_refl _) _
      have HA2 := hidd (HA.out.next ba)
      clear ba c0 c1 HY
      go_wp2_with fail
      refine (WP.out _ HA2.out.below).mono ?_
      rintro e w2 ⟨rfl, hb2⟩
      have HA3 := hidd (HA2.out.next hb2)
      have q0 : w2.cell? ⟨w.heap.size, 0, none⟩ = some (.int .i64 0) := by simp [World.cell?, HA3.out.box]
      have q1 : w2.cell? ⟨w.heap.size, 1, none⟩ = some (.int .i64 0) := by simp [World.cell?, HA3.out.box]
      have z0 : w2.frozen? ⟨w.heap.size, 0, none⟩ = false := by simp [World.frozen?, HA3.out.box]
      have z1 : w2.frozen? ⟨w.heap.size, 1, none⟩ = false := by simp [World.frozen?, HA3.out.box]
      clear hb2 HA HA2 d0 d1 WP
      by_cases y0 : y = 0
      · subst y0
        go_wp2_with fail
        go_roundw
        case rel => exact ⟨1, by omega, by go_num, HA3.out, fun _ => by trivial⟩
        case measure => simp [intOf]
      · have y0' : (y != 0) = true := by simpa using y0
        go_wp2_with fail
        refine bodyPost_ret (v := fv (y, 0)) (by simp [results, Tryz.results40, go_sem, fv, q0, q1]) rfl ⟨rfl, HA3.out.set _ _⟩
    · obtain rfl : j = 1 := by omega
      obtain rfl := HY.out rfl
      have q0 : wr.cell? ⟨w.heap.size, 0, none⟩ = some (.int .i64 0) := by simp [World.cell?, HA.out.box]
      have q1 : wr.cell? ⟨w.heap.size, 1, none⟩ = some (.int .i64 0) := by simp [World.cell?, HA.out.box]
      have z0 : wr.frozen? ⟨w.heap.size, 0, none⟩ = false := by simp [World.frozen?, HA.out.box]
      have z1 : wr.frozen? ⟨w.heap.size, 1, none⟩ = false := by simp [World.frozen?, HA.out.box]
      clear WP c0 c1
      go_wp2_with fail
      refine bodyPost_ret (v := fv (0, 0)) (by simp [results, Tryz.results40, go_sem, fv, q0, q1]) rfl ⟨rfl, HA.out.set _ _⟩
end
section
set_option linter.unusedVariables false
set_option linter.unusedSimpArgs false
open Go.RowKit

mutual
/-- How many procedures are in an expression. -/
def lamC : Cor → Nat
  | ⟨k, i, n, lb, ow, q, ks⟩ => (if k = 8 then 1 else 0) + lamL ks
def lamL : List Cor → Nat
  | [] => 0
  | c :: r => lamC c + lamL r
end
mutual
/-- How long the longest one of these is. -/
def lonC : Cor → Nat
  | ⟨k, i, n, lb, ow, q, ks⟩ => max (lonL ks) (if k = 8 then sizL ks + 1 else 0)
def lonL : List Cor → Nat
  | [] => 0
  | c :: r => max (lonC c) (lonL r)
end
mutual
/-- Each node has as many kids as it must. -/
def okC : Cor → Prop
  | ⟨k, i, n, lb, ow, q, ks⟩ => wkids k ks.length = 0 ∧ okL ks
def okL : List Cor → Prop
  | [] => True
  | c :: r => okC c ∧ okL r
end
theorem sizL_append : ∀ (a b : List Cor), sizL (a ++ b) = sizL a + sizL b
  | [], b => by simp [sizL]
  | c :: a, b => by rw [List.cons_append, sizL, sizL, sizL_append a b]; omega
theorem lamL_append : ∀ (a b : List Cor), lamL (a ++ b) = lamL a + lamL b
  | [], b => by simp [lamL]
  | c :: a, b => by rw [List.cons_append, lamL, lamL, lamL_append a b]; omega
theorem lonL_append : ∀ (a b : List Cor), lonL (a ++ b) = max (lonL a) (lonL b)
  | [], b => by simp [lonL]
  | c :: a, b => by rw [List.cons_append, lonL, lonL, lonL_append a b]; omega
theorem take_more {α : Type} {l : List α} {j : Nat} {c : α} (h : l[j]? = some c) : l.take (j + 1) = l.take j ++ [c] := by
  rw [List.take_add_one, h]; rfl
theorem sizL_more {l : List Cor} {j : Nat} {c : Cor} (h : l[j]? = some c) : sizL (l.take (j + 1)) = sizL (l.take j) + sizC c := by
  rw [take_more h, sizL_append]; simp [sizL]
theorem lamL_more {l : List Cor} {j : Nat} {c : Cor} (h : l[j]? = some c) : lamL (l.take (j + 1)) = lamL (l.take j) + lamC c := by
  rw [take_more h, lamL_append]; simp [lamL]
theorem lonL_more {l : List Cor} {j : Nat} {c : Cor} (h : l[j]? = some c) : lonL (l.take (j + 1)) = max (lonL (l.take j)) (lonC c) := by
  rw [take_more h, lonL_append]; simp [lonL]
theorem sizL_take (l : List Cor) (j : Nat) : sizL (l.take j) ≤ sizL l := by
  have h := sizL_append (l.take j) (l.drop j)
  rw [List.take_append_drop] at h
  omega
theorem lamL_take (l : List Cor) (j : Nat) : lamL (l.take j) ≤ lamL l := by
  have h := lamL_append (l.take j) (l.drop j)
  rw [List.take_append_drop] at h
  omega
theorem okL_at : ∀ (l : List Cor) (j : Nat) (c : Cor), okL l → l[j]? = some c → okC c
  | x :: r, 0, c, h, hj => by
    rw [okL] at h
    simp at hj
    subst hj
    exact h.1
  | x :: r, j + 1, c, h, hj => by
    rw [okL] at h
    exact okL_at r j c h.2 (by simpa using hj)
theorem okC_kids {c : Cor} (h : okC c) : okL c.kids := by
  obtain ⟨k, i, n, lb, ow, q, ks⟩ := c
  rw [okC] at h
  exact h.2
theorem okC_wk {c : Cor} (h : okC c) : wkids c.kind c.kids.length = 0 := by
  obtain ⟨k, i, n, lb, ow, q, ks⟩ := c
  rw [okC] at h
  exact h.1

theorem wk12 {n : Nat} (h : wkids 12 n = 0) : 1 ≤ n := by
  cases n with
  | zero => simp [wkids] at h
  | succ n => omega

/-- What a scale holds. -/
structure Scl (sb p q : Nat) (w : World) : Prop where
  lt : sb < w.heap.size
  c0 : w.cell? ⟨sb, 0, none⟩ = some (.int .i64 (p : Int))
  c1 : w.cell? ⟨sb, 1, none⟩ = some (.int .i64 (q : Int))
  z0 : w.frozen? ⟨sb, 0, none⟩ = false
  z1 : w.frozen? ⟨sb, 1, none⟩ = false
def ToldS (sb : Nat) (r p q : Nat) (w : World) (e : Ending) (w' : World) : Prop := e = .returned (.int .i64 (r : Int)) ∧ Keep sb w w' ∧ Scl sb p q w'

theorem Scl.set {sb p q : Nat} {w : World} (h : Scl sb p q w) (p' q' : Nat) : Scl sb p' q' ((w.setCell ⟨sb, 0, none⟩ (.int .i64 (p' : Int))).setCell ⟨sb, 1, none⟩ (.int .i64 (q' : Int))) := by
  obtain ⟨lt, c0, c1, z0, z1⟩ := h
  refine ⟨by simp [World.setCell]; exact lt, ?_, ?_, ?_, ?_⟩
  · go_simp
  · go_simp
  · go_simp
  · go_simp

set_option maxRecDepth 100000 in
set_option maxHeartbeats 1600000 in
theorem sproto_any (sb p q n : Nat) (w : World) (h : Scl sb p q w) (hp : p ≤ 1000000000) (hq : q ≤ 1000000000) (hn : n ≤ 1000000000) :
    Calls Tryz.prog 68 #[.pointer (some ⟨sb, 0, none⟩), .int .i64 (n : Int)] w fun e w' => e = .returned (.tuple #[]) ∧ Keep sb w w' ∧ Scl sb (p + 1) (max q (n + 1)) w' := by
  have HS := hidd (h.set (p + 1) (max q (n + 1)))
  have HK : Hid (Keep sb w ((w.setCell ⟨sb, 0, none⟩ (.int .i64 ((p + 1 : Nat) : Int))).setCell ⟨sb, 1, none⟩ (.int .i64 ((max q (n + 1) : Nat) : Int)))) := ((Keep.refl sb w).setCell ⟨sb, 0, none⟩ rfl _).setCell ⟨sb, 1, none⟩ rfl _
  obtain ⟨lt, c0, c1, z0, z1⟩ := h
  go_enter Tryz.func68, Tryz.ntmps68
  go_wp2_with fail
  rw [show max (q : Int) ((n : Int) + 1) = ((max q (n + 1) : Nat) : Int) by omega, show (p : Int) + 1 = ((p + 1 : Nat) : Int) by omega]
  go_end0
  exact ⟨rfl, HK.out, HS.out⟩

set_option maxRecDepth 100000 in
set_option maxHeartbeats 3200000 in
theorem score_step (B f sb : Nat) (hB : B ≤ sb)
    (ih : ∀ (l : List Cor) (a : Option Addr) (cap p q : Nat) (w : World), Cc B w f a l → l.length ≤ cap → okL l → sizL l ≤ 1000000000 → p + lamL l ≤ 1000000000 → q ≤ 1000000000 → lonL l ≤ 1000000000 → Scl sb p q w → Calls Tryz.prog 69 #[.pointer (some ⟨sb, 0, none⟩), .slice a l.length cap] w (ToldS sb (sizL l) (p + lamL l) (max q (lonL l)) w))
    (b o : Nat) (c : Cor) (p q : Nat) (w : World) (hc : Cn B w f b o c) (hok : okC c) (hs : sizC c ≤ 1000000000) (hp : p + lamC c ≤ 1000000000) (hq : q ≤ 1000000000) (hl : lonC c ≤ 1000000000) (h : Scl sb p q w) :
    Calls Tryz.prog 100 #[.pointer (some ⟨sb, 0, none⟩), .pointer (some ⟨b, o, none⟩)] w (ToldS sb (sizC c) (p + lamC c) (max q (lonC c)) w) := by
  obtain ⟨hbB, qa, qc, ka, kc, nc, ok, hqd, hk⟩ := hc
  have hw1 := okC_wk hok
  have hlen := hk.len
  have hbs : b ≠ sb := by omega
  have hsl := h.lt
  obtain ⟨k, i, n, lb, ow, qq, ks⟩ := c
  have c0 := nc.c0
  have c11 := nc.c11
  simp only at c0 c11 hk hw1 hlen
  have hkc : ks.length ≤ kc := ok.2.2.2.2
  have hks : sizL ks ≤ 1000000000 := by
    by_cases h8 : k = 8
    · subst h8; rw [lonC, if_pos rfl] at hl; omega
    · rw [sizC, if_neg h8] at hs
      by_cases h7 : k = 7
      · rw [if_pos h7] at hs; omega
      · rw [if_neg h7] at hs
        by_cases h12 : k = 12
        · rw [if_pos h12] at hs
          subst h12
          have := wk12 hw1
          omega
        · rw [if_neg h12] at hs; omega
  have hkl : lonL ks ≤ 1000000000 := by rw [lonC] at hl; omega
  have hkp : p + lamL ks ≤ 1000000000 := by rw [lamC] at hp; omega
  have H25 := hidd (ih ks ka kc p q w hk hkc (okC_kids hok) hks hkp hq hkl h)
  have E1 : Hid (k = 8 → sizC ⟨k, i, n, lb, ow, qq, ks⟩ = 1 ∧ p + lamC ⟨k, i, n, lb, ow, qq, ks⟩ = p + lamL ks + 1 ∧ max q (lonC ⟨k, i, n, lb, ow, qq, ks⟩) = max (max q (lonL ks)) (sizL ks + 1)) := fun h8 => by
    rw [sizC, lamC, lonC, if_pos h8, if_pos h8, if_pos h8]; omega
  have E2 : Hid (k ≠ 8 → p + lamC ⟨k, i, n, lb, ow, qq, ks⟩ = p + lamL ks ∧ max q (lonC ⟨k, i, n, lb, ow, qq, ks⟩) = max q (lonL ks)) := fun h8 => by
    rw [lamC, lonC, if_neg h8, if_neg h8]; omega
  have E3 : Hid (k ≠ 8 → sizC ⟨k, i, n, lb, ow, qq, ks⟩ = if k = 7 then sizL ks + 2 else if k = 12 then sizL ks + ks.length - 1 else sizL ks + 1) := fun h8 => by
    show sizC _ = _
    rw [sizC, if_neg h8]
  have hw12 : k = 12 → 1 ≤ ks.length := fun h12 => by subst h12; exact wk12 hw1
  generalize sizC ⟨k, i, n, lb, ow, qq, ks⟩ = S at hs E1 E3 ⊢
  generalize p + lamC ⟨k, i, n, lb, ow, qq, ks⟩ = P at hp E1 E2 ⊢
  generalize max q (lonC ⟨k, i, n, lb, ow, qq, ks⟩) = Q at E1 E2 ⊢
  generalize hSL : sizL ks = sl at *
  generalize hPL : p + lamL ks = pl at *
  generalize hQL : max q (lonL ks) = ql at *
  have hql : ql ≤ 1000000000 := by omega
  clear hSL hPL hQL nc ok hqd hk hok hl ih hw1 hkl h
  go_enter Tryz.func100, Tryz.ntmps100
  go_wp2_with fail
  refine H25.out.mono ?_
  rintro e w1 ⟨rfl, hk1, hs1⟩
  have d0 := (hk1.cell (p := ⟨b, o, none⟩) (by show b < w.heap.size; omega) hbs).trans c0
  have d11 := (hk1.cell (p := ⟨b, o + 11, none⟩) (by show b < w.heap.size; omega) hbs).trans c11
  have HK1 := hidd hk1
  have HS1 := hidd hs1
  clear hk1 hs1 c0 c11 H25
  by_cases h8 : k = 8
  · obtain ⟨rfl, rfl, rfl⟩ := E1.out h8
    subst h8
    clear E1 E2 E3
    go_wp2_with fail
    refine (sproto_any sb pl ql sl w1 HS1.out hkp hql hks).mono ?_
    rintro e w2 ⟨rfl, hk2, hs2⟩
    have HK2 := hidd (HK1.out.trans hk2)
    have HS2 := hidd hs2
    clear hk2 hs2 d0 d11
    go_wp2_with fail
    go_ret
    exact ⟨rfl, HK2.out, HS2.out⟩
  · obtain ⟨rfl, rfl⟩ := E2.out h8
    have e3 := E3.out h8
    have h8' : (k == 8) = false := by simpa using h8
    clear E1 E2 E3 h8
    by_cases h7 : k = 7
    · rw [if_pos h7] at e3
      subst e3 h7
      go_wp2_with fail
      go_ret
      exact ⟨by simp, HK1.out, HS1.out⟩
    · rw [if_neg h7] at e3
      have h7' : (k == 7) = false := by simpa using h7
      clear h7
      by_cases h12 : k = 12
      · rw [if_pos h12] at e3
        have := hw12 h12
        subst e3 h12
        go_wp2_with fail
        go_ret
        exact ⟨by rw [show ((sl + ks.length - 1 : Nat) : Int) = (sl : Int) + ks.length - 1 by omega]; rfl, HK1.out, HS1.out⟩
      · rw [if_neg h12] at e3
        have h12' : (k == 12) = false := by simpa using h12
        clear h12
        subst e3
        go_wp2_with fail
        go_ret
        exact ⟨by simp, HK1.out, HS1.out⟩

set_option maxRecDepth 100000 in
set_option maxHeartbeats 3200000 in
theorem sall_step (B f sb : Nat) (hB : B ≤ sb)
    (l : List Cor)
    (ih : l ≠ [] → ∀ (b o : Nat) (c : Cor) (p q : Nat) (w : World), Cn B w f b o c → okC c → sizC c ≤ 1000000000 → p + lamC c ≤ 1000000000 → q ≤ 1000000000 → lonC c ≤ 1000000000 → Scl sb p q w → Calls Tryz.prog 100 #[.pointer (some ⟨sb, 0, none⟩), .pointer (some ⟨b, o, none⟩)] w (ToldS sb (sizC c) (p + lamC c) (max q (lonC c)) w))
    (a : Option Addr) (cap p q : Nat) (w : World) (hc : Cc B w (f + 1) a l) (hcap : l.length ≤ cap) (hok : okL l) (hs : sizL l ≤ 1000000000) (hp : p + lamL l ≤ 1000000000) (hq : q ≤ 1000000000) (hl : lonL l ≤ 1000000000) (h : Scl sb p q w) :
    Calls Tryz.prog 69 #[.pointer (some ⟨sb, 0, none⟩), .slice a l.length cap] w (ToldS sb (sizL l) (p + lamL l) (max q (lonL l)) w) := by
  have hlen := hc.len
  have HL := hidd hc
  have IH := hidd ih
  have HOK : Hid (okL l ∧ sizL l ≤ 1000000000 ∧ p + lamL l ≤ 1000000000 ∧ lonL l ≤ 1000000000) := ⟨hok, hs, hp, hl⟩
  have HS0 := hidd h
  have hsl := h.lt
  clear hc ih hok h hs hp hl
  obtain ⟨sz, hsz⟩ : ∃ sz, sz = sizL l := ⟨_, rfl⟩
  obtain ⟨pp, hpp⟩ : ∃ pp, pp = p + lamL l := ⟨_, rfl⟩
  obtain ⟨qq, hqq⟩ : ∃ qq, qq = max q (lonL l) := ⟨_, rfl⟩
  rw [← hsz, ← hpp, ← hqq]
  have EQ : Hid (sz = sizL l ∧ pp = p + lamL l ∧ qq = max q (lonL l)) := ⟨hsz, hpp, hqq⟩
  clear hsz hpp hqq
  go_enter Tryz.func69, Tryz.ntmps69
  go_wp2_with fail
  go_loopw [5, 9] (fun v ix wr => ∃ j s : Nat, j ≤ l.length ∧ ix = .int .i64 j ∧ v = .int .i64 s ∧ s ≤ 1000000000 ∧ Hid (s = sizL (l.take j) ∧ Keep sb w wr ∧ Scl sb (p + lamL (l.take j)) (max q (lonL (l.take j))) wr)) (fun _ ix _ => l.length - (intOf ix).toNat)
  case atStart => exact ⟨0, 0, Nat.zero_le _, rfl, rfl, by omega, by rfl, Keep.refl _ _, by simpa [lamL, lonL] using HS0.out⟩
  case round =>
    clear HS0
    obtain ⟨j, s, hj, rfl, rfl, hs9, HR⟩ := hrel
    by_cases hlt : j < l.length
    · obtain ⟨c, hc⟩ : ∃ c, l[j]? = some c := ⟨l[j], List.getElem?_eq_getElem hlt⟩
      have hne : l ≠ [] := by intro e; rw [e] at hlt; simp at hlt
      obtain ⟨g', b, o, hg, ha, hall⟩ := (HL.out.below (HR.out.2.1.toBelow hB (by omega))).at hne
      obtain rfl : f = g' := by omega
      subst ha
      have b1 := sizL_more hc
      have b2 := lamL_more hc
      have b3 := lonL_more hc
      have t1 := sizL_take l (j + 1)
      have t2 := lamL_take l (j + 1)
      have t3 : lonL (l.take (j + 1)) ≤ lonL l := by
        have h := lonL_append (l.take (j + 1)) (l.drop (j + 1))
        rw [List.take_append_drop] at h
        omega
      have hkk := HOK.out
      have hse := HR.out.1
      have hsum : s + sizC c ≤ 1000000000 := by omega
      have CALL := hidd (IH.out hne b (o + j * 12) c (p + lamL (l.take j)) (max q (lonL (l.take j))) wr (hall j c hc) (okL_at l j c hkk.1 hc) (by omega) (by omega) (by omega) (by omega) HR.out.2.2)
      have NX : Hid (s + sizC c = sizL (l.take (j + 1)) ∧ p + lamL (l.take j) + lamC c = p + lamL (l.take (j + 1)) ∧ max (max q (lonL (l.take j))) (lonC c) = max q (lonL (l.take (j + 1)))) := ⟨by omega, by omega, by omega⟩
      have HKr := hidd HR.out.2.1
      clear hall hc hne b1 b2 b3 t1 t2 t3 hkk hse HR
      generalize p + lamL (l.take j) + lamC c = P at CALL NX
      generalize max (max q (lonL (l.take j))) (lonC c) = Q at CALL NX
      generalize sizC c = S at CALL NX hsum
      go_wp2_with fail
      refine CALL.out.mono ?_
      rintro e w2 ⟨rfl, hk2, hs2⟩
      obtain ⟨n1, n2, n3⟩ := NX.out
      have HE : Hid (s + S = sizL (l.take (j + 1)) ∧ Keep sb w w2 ∧ Scl sb (p + lamL (l.take (j + 1))) (max q (lonL (l.take (j + 1)))) w2) := ⟨n1, HKr.out.trans hk2, by rw [← n2, ← n3]; exact hs2⟩
      clear hk2 hs2 n1 n2 n3 NX HKr CALL
      go_wp2_with fail
      go_roundw
      case rel => exact ⟨j + 1, s + S, by omega, by go_num, by simp, hsum, HE.out⟩
      case measure => simp [intOf]; omega
    · obtain rfl : j = l.length := by omega
      rw [List.take_length] at HR
      obtain ⟨e1, e2, e3⟩ := EQ.out
      clear EQ IH HL HOK
      go_wp2_with fail
      go_ret
      exact ⟨by rw [e1, HR.out.1]; rfl, HR.out.2.1, by rw [e2, e3]; exact HR.out.2.2⟩

theorem sall_any (B sb : Nat) (hB : B ≤ sb) : ∀ (f : Nat) (l : List Cor) (a : Option Addr) (cap p q : Nat) (w : World), Cc B w f a l → l.length ≤ cap → okL l → sizL l ≤ 1000000000 → p + lamL l ≤ 1000000000 → q ≤ 1000000000 → lonL l ≤ 1000000000 → Scl sb p q w →
    Calls Tryz.prog 69 #[.pointer (some ⟨sb, 0, none⟩), .slice a l.length cap] w (ToldS sb (sizL l) (p + lamL l) (max q (lonL l)) w)
  | 0, l, a, cap, p, q, w, h, h1, h2, h3, h4, h5, h6, h7 => by
    have e : l = [] := h
    subst e
    exact sall_step B 0 sb hB [] (fun h => absurd rfl h) a cap p q w ⟨Nat.zero_le _, Or.inl rfl⟩ h1 h2 h3 h4 h5 h6 h7
  | f + 1, l, a, cap, p, q, w, h, h1, h2, h3, h4, h5, h6, h7 =>
    sall_step B f sb hB l (fun _ => score_step B f sb hB (sall_any B sb hB f)) a cap p q w h h1 h2 h3 h4 h5 h6 h7
end
section
set_option linter.unusedVariables false
set_option linter.unusedSimpArgs false
open Go.RowKit

def mchB (l : List Cor) : Bool := decide (500 < lamL l + 1) || decide (6000 < max (lonL l) (sizL l + l.length + 1))
theorem Scl.new (w : World) : Scl w.heap.size 0 0 (w.alloc (.cells #[.int .i64 0, .int .i64 0] 123)) := by
  have h := World.alloc_heap_new w (.cells #[.int .i64 0, .int .i64 0] 123)
  refine ⟨by simp, (World.cell?_alloc_mark w _ 123 (0, 0) 0).trans rfl, (World.cell?_alloc_mark w _ 123 (0, 0) 1).trans rfl, ?_, ?_⟩
  · unfold World.frozen?
    simp only
    rw [h]
    rfl
  · unfold World.frozen?
    simp only
    rw [h]
    rfl

set_option maxRecDepth 100000 in
set_option maxHeartbeats 1600000 in
theorem much_any (B g : Nat) (l : List Cor) (a : Option Addr) (cap : Nat) (w : World) (hc : Cc B w g a l) (hB : B ≤ w.heap.size) (hcap : l.length ≤ cap) (hok : okL l) (hs : sizL l ≤ 100000000) (hp : lamL l ≤ 100000000) (hl : lonL l ≤ 100000000) (hn : l.length ≤ 200) :
    Calls Tryz.prog 41 #[.slice a l.length cap] w fun e w' => e = .returned (.bool (mchB l)) ∧ Below w.heap.size w w' := by
  have HC := hidd (sall_any B w.heap.size hB g l a cap 0 0 _ (hc.below ((Below.refl _ _).alloc hB (.cells #[.int .i64 0, .int .i64 0] 123))) hcap hok (by omega) (by omega) (by omega) (by omega) (Scl.new w))
  have HE : Hid (mchB l = (decide (500 < 0 + lamL l + 1) || decide (6000 < max (max 0 (lonL l)) (sizL l + l.length + 1)))) := by
    show mchB l = _
    unfold mchB
    rw [Nat.zero_add, Nat.zero_max]
  have hq : max 0 (lonL l) ≤ 100000000 := by omega
  have hp' : 0 + lamL l ≤ 100000000 := by omega
  generalize max 0 (lonL l) = q at HC HE hq
  generalize 0 + lamL l = p at HC HE hp'
  generalize sizL l = s at HC HE hs
  clear hc hok hp hl
  generalize mchB l = y at HE ⊢
  go_enter Tryz.func41, Tryz.ntmps41
  go_wp2_with fail
  refine HC.out.mono ?_
  rintro e w1 ⟨rfl, hk1, hs1⟩
  have HB1 : Hid (Below w.heap.size w w1) := ((Below.refl _ _).alloc (Nat.le_refl _) _).trans (hk1.toBelow (Nat.le_refl _) (by simp))
  have HS1 := hidd hs1
  clear hk1 hs1 HC
  go_wp2_with fail
  rw [show (s : Int) + l.length = ((s + l.length : Nat) : Int) by omega]
  refine (sproto_any w.heap.size p q (s + l.length) w1 HS1.out (by omega) (by omega) (by omega)).mono ?_
  rintro e w2 ⟨rfl, hk2, hs2⟩
  have HB2 : Hid (Below w.heap.size w w2) := HB1.out.trans (hk2.toBelow (Nat.le_refl _) HB1.out.size)
  obtain ⟨lt, c0, c1, z0, z1⟩ := hs2
  clear hk2 HB1 HS1
  by_cases h5 : 500 < p + 1
  · have h5' : (500 : Int) < ((p + 1 : Nat) : Int) := by omega
    have e5 : y = true := by rw [HE.out]; simp [h5]
    subst e5
    clear HE h5
    go_wp2_with fail
    go_ret
    exact ⟨rfl, HB2.out⟩
  · have h5' : ¬ (500 : Int) < ((p + 1 : Nat) : Int) := by omega
    by_cases h6 : 6000 < max q (s + l.length + 1)
    · have h6' : (6000 : Int) < ((max q (s + l.length + 1) : Nat) : Int) := by omega
      have e5 : y = true := by rw [HE.out]; simp only [h6, decide_true, Bool.or_true]
      subst e5
      clear HE h5 h6
      generalize max q (s + l.length + 1) = M at c1 h6'
      go_wp2_with fail
      go_ret
      exact ⟨rfl, HB2.out⟩
    · have h6' : ¬ (6000 : Int) < ((max q (s + l.length + 1) : Nat) : Int) := by omega
      have e5 : y = false := by rw [HE.out]; simp only [h5, h6, decide_false, Bool.or_false]
      subst e5
      clear HE h5 h6
      generalize max q (s + l.length + 1) = M at c1 h6'
      go_wp2_with fail
      go_ret
      exact ⟨by simp [h6']; omega, HB2.out⟩
end
section
set_option linter.unusedVariables false
set_option linter.unusedSimpArgs false

theorem wk8 {n : Nat} (h : wkids 8 n = 0) : n = 1 := by
  unfold wkids at h
  simp at h
  exact h
theorem wk7 {n : Nat} (h : wkids 7 n = 0) : n = 3 := by
  unfold wkids at h
  simp at h
  exact h
theorem genC_else {k : Int} (i n : Int) (lb ow : ByteArray) (q : Dat) (ks : List Cor) (at0 pr : Nat) (h8 : ¬ k = 8) (h7 : ¬ k = 7) (h12 : ¬ k = 12) :
    genC ⟨k, i, n, lb, ow, q, ks⟩ at0 pr = ((genL ks at0 pr).1 ++ [lastI ⟨k, i, n, lb, ow, q, ks⟩], (genL ks at0 pr).2) := by
  rw [genC.eq_def]
  simp only [if_neg h8, if_neg h7, if_neg h12]
def Len (c : Cor) : Prop := ∀ at0 pr, (genC c at0 pr).1.length = sizC c ∧ (genC c at0 pr).2.length = lamC c
theorem genL_len : ∀ (l : List Cor), (∀ c ∈ l, Len c) → ∀ at0 pr, (genL l at0 pr).1.length = sizL l ∧ (genL l at0 pr).2.length = lamL l
  | [], _, at0, pr => by rw [genL, sizL, lamL]; exact ⟨rfl, rfl⟩
  | c :: r, h, at0, pr => by
    have h1 := h c (by simp) at0 pr
    have h2 := genL_len r (fun c hc => h c (List.mem_cons_of_mem _ hc)) (at0 + (genC c at0 pr).1.length) (pr + (genC c at0 pr).2.length)
    rw [genL, sizL, lamL]
    simp only [List.length_append]
    omega
theorem genS_len : ∀ (l : List Cor), (∀ c ∈ l, Len c) → ∀ at0 pr, (genS l false at0 pr).1.length = sizL l + l.length ∧ (genS l false at0 pr).2.length = lamL l
  | [], _, at0, pr => by rw [genS, sizL, lamL]; exact ⟨rfl, rfl⟩
  | c :: r, h, at0, pr => by
    have h1 := h c (by simp) (at0 + 1) pr
    have h2 := genS_len r (fun c hc => h c (List.mem_cons_of_mem _ hc)) (at0 + 1 + (genC c (at0 + 1) pr).1.length) (pr + (genC c (at0 + 1) pr).2.length)
    rw [genS, sizL, lamL]
    simp only [List.length_append, Bool.false_eq_true, if_false, List.length_cons, List.length_nil, Nat.zero_add]
    omega
theorem genS_len1 (c : Cor) (r : List Cor) (h : ∀ x ∈ c :: r, Len x) (at0 pr : Nat) : (genS (c :: r) true at0 pr).1.length = sizL (c :: r) + (c :: r).length - 1 ∧ (genS (c :: r) true at0 pr).2.length = lamL (c :: r) := by
  have h1 := h c (by simp) at0 pr
  have h2 := genS_len r (fun c hc => h c (List.mem_cons_of_mem _ hc)) (at0 + (genC c at0 pr).1.length) (pr + (genC c at0 pr).2.length)
  rw [genS, sizL, lamL]
  simp only [List.length_append, if_true, List.length_cons, List.length_nil, Nat.add_zero, List.nil_append]
  omega
mutual
theorem genC_len : ∀ (c : Cor), okC c → Len c
  | ⟨k, i, n, lb, ow, q, ks⟩, h => by
    rw [okC] at h
    have E := each_len ks h.2
    have hw := h.1
    intro at0 pr
    by_cases h8 : k = 8
    · subst h8
      have := wk8 hw
      match ks, this, E with
      | [b], _, E =>
        have h1 := E b (by simp) 0 (pr + 1)
        rw [genC, sizC, lamC]
        simp [lamL]
        omega
    · by_cases h7 : k = 7
      · subst h7
        have := wk7 hw
        match ks, this, E with
        | [x, y, z], _, E =>
          have h1 := E x (by simp) at0 pr
          have h2 := E y (by simp) (at0 + (genC x at0 pr).1.length + 1) (pr + (genC x at0 pr).2.length)
          have h3 := E z (by simp) (at0 + (genC x at0 pr).1.length + 1 + (genC y (at0 + (genC x at0 pr).1.length + 1) (pr + (genC x at0 pr).2.length)).1.length + 1) (pr + (genC x at0 pr).2.length + (genC y (at0 + (genC x at0 pr).1.length + 1) (pr + (genC x at0 pr).2.length)).2.length)
          rw [genC, sizC, lamC]
          simp [lamL, sizL]
          omega
      · by_cases h12 : k = 12
        · subst h12
          have := wk12 hw
          match ks, this, E with
          | c :: r, _, E =>
            have h1 := genS_len1 c r E at0 pr
            rw [genC, sizC, lamC]
            simp only [Int.reduceEq, if_false, if_true, Nat.zero_add]
            exact h1
        · have h1 := genL_len ks E at0 pr
          rw [genC_else i n lb ow q ks at0 pr h8 h7 h12, sizC, lamC, if_neg h8, if_neg h7, if_neg h12, if_neg h8]
          simp only [List.length_append, List.length_singleton]
          omega
theorem each_len : ∀ (l : List Cor), okL l → ∀ c ∈ l, Len c
  | [], _, c, hc => by cases hc
  | x :: r, h, c, hc => by
    rw [okL] at h
    rcases List.mem_cons.1 hc with e | hc
    · rw [e]; exact genC_len x h.1
    · exact each_len r h.2 c hc
end
end
end Go.Proofs.YtdnbingddbakaaaGreatDoor
