/- Cores in memory; what package model finds wrong with a node. What package model finds wrong with a node's fields. Package model's checker. -/
import Derived.Deep.AppendLies
import Derived.Deep.CutRange
import Derived.Deep.RegionHeld3
import Derived.Deep.RegionHeldLaw
import Derived.Deep.RegionLaw
import Derived.Deep.Upon
import Derived.OrdersHeld
import Derived.RangeFuncRecord
import Derived.Test.YtdnbingddbakaaaGreatDoorK01
import Derived.Test.YtdnbingddbakaaaGreatDoorK05
namespace Go.Proofs.YtdnbingddbakaaaGreatDoor
section
set_option linter.unusedVariables false
set_option linter.unusedSimpArgs false
open Go.RowKit

/-- Data ds lie behind a, in blocks that are such. -/
def Dc (ok : Nat → Prop) (w : World) : Nat → Option Addr → List Dat → Prop
  | 0, _, ds => ds = []
  | f + 1, a, ds => ds.length ≤ 9223372036854775807 ∧ (ds = [] ∨ ∃ b o, a = some ⟨b, o, none⟩ ∧ ok b ∧ ∀ (i : Nat) (d : Dat), ds[i]? = some d → ∃ a' cap,
      w.cell? ⟨b, o + i * 6, none⟩ = some (.int .i64 d.kind) ∧ w.cell? ⟨b, o + i * 6 + 1, none⟩ = some (.int .i64 d.n) ∧ w.cell? ⟨b, o + i * 6 + 2, none⟩ = some (.string d.name) ∧
      w.cell? ⟨b, o + i * 6 + 3, none⟩ = some (.int .i64 d.stamp) ∧ w.cell? ⟨b, o + i * 6 + 4, none⟩ = some (.int .i64 d.lib) ∧ w.cell? ⟨b, o + i * 6 + 5, none⟩ = some (.slice a' d.kids.length cap) ∧
      d.name.size ≤ maxLen ∧ d.kids.length ≤ cap ∧ Dc ok w f a' d.kids)

theorem Dc.stay {ok ok' : Nat → Prop} {w w' : World} (hw : ∀ k, ok k → w'.heap[k]? = w.heap[k]?) (ho : ∀ k, ok k → ok' k) : ∀ (f : Nat) (a : Option Addr) (ds : List Dat), Dc ok w f a ds → Dc ok' w' f a ds
  | 0, _, _, h => h
  | f + 1, a, ds, h => by
    obtain ⟨hl, h⟩ := h
    refine ⟨hl, ?_⟩
    rcases h with h | ⟨b, o, ha, hb, h⟩
    · exact Or.inl h
    · refine Or.inr ⟨b, o, ha, ho b hb, fun i d hd => ?_⟩
      obtain ⟨a', cap, c0, c1, c2, c3, c4, c5, hn, hc, hk⟩ := h i d hd
      have e : ∀ q, w'.cell? ⟨b, q, none⟩ = w.cell? ⟨b, q, none⟩ := fun q => World.cell?_of_block (hw b hb)
      exact ⟨a', cap, (e _).trans c0, (e _).trans c1, (e _).trans c2, (e _).trans c3, (e _).trans c4, (e _).trans c5, hn, hc, Dc.stay hw ho f a' _ hk⟩

theorem Dc.nil (ok : Nat → Prop) (w : World) (f : Nat) (a : Option Addr) : Dc ok w f a [] := by
  cases f with
  | zero => rfl
  | succ f => exact ⟨Nat.zero_le _, Or.inl rfl⟩

theorem Dc.more {ok : Nat → Prop} {w : World} : ∀ (f : Nat) (a : Option Addr) (ds : List Dat), Dc ok w f a ds → Dc ok w (f + 1) a ds
  | 0, a, ds, h => by
    rw [show ds = [] from h]
    exact Dc.nil _ _ _ _
  | f + 1, a, ds, h => by
    obtain ⟨hl, h⟩ := h
    refine ⟨hl, ?_⟩
    rcases h with h | ⟨b, o, ha, hb, h⟩
    · exact Or.inl h
    · refine Or.inr ⟨b, o, ha, hb, fun i d hd => ?_⟩
      obtain ⟨a', cap, c0, c1, c2, c3, c4, c5, hn, hc, hk⟩ := h i d hd
      exact ⟨a', cap, c0, c1, c2, c3, c4, c5, hn, hc, Dc.more f a' _ hk⟩

theorem Dc.upto {ok : Nat → Prop} {w : World} {f : Nat} {a : Option Addr} {ds : List Dat} (h : Dc ok w f a ds) : ∀ (k : Nat), Dc ok w (f + k) a ds
  | 0 => h
  | k + 1 => Dc.more _ _ _ (h.upto k)

theorem Dc.lies {ok : Nat → Prop} {B : Nat} {w : World} (ho : ∀ k, ok k → k < B) : ∀ (f : Nat) (a : Option Addr) (ds : List Dat), Dc ok w f a ds → Lies B w f a ds
  | 0, _, _, h => h
  | f + 1, a, ds, h => by
    obtain ⟨hl, h⟩ := h
    refine ⟨hl, ?_⟩
    rcases h with h | ⟨b, o, ha, hb, h⟩
    · exact Or.inl h
    · refine Or.inr ⟨b, o, ha, ho b hb, fun i d hd => ?_⟩
      obtain ⟨a', cap, c0, c1, c2, c3, c4, c5, hn, hc, hk⟩ := h i d hd
      exact ⟨a', cap, c0, c1, c2, c3, c4, c5, hn, Dc.lies ho f a' _ hk⟩

theorem hidd {p : Prop} (h : p) : Hid p := h
theorem ba_eq {a b : ByteArray} (h : a.data.toList = b.data.toList) : a = b := by
  cases a; cases b; simpa using h
theorem beqS_true {a b : ByteArray} (h : (a.toList == b.toList) = true) : a = b := by
  rw [ByteArray.toList_eq, ByteArray.toList_eq] at h
  exact ba_eq (by simpa using h)
theorem beqS_ne {a b : ByteArray} (h : ¬ a = b) : (a.toList == b.toList) = false := by
  cases e : (a.toList == b.toList) with
  | false => rfl
  | true => exact absurd (beqS_true e) h

/-- A node's twelve cells. -/
structure Nc (w : World) (b o : Nat) (c : Cor) (qa : Option Addr) (qc : Nat) (ka : Option Addr) (kc : Nat) : Prop where
  c0 : w.cell? ⟨b, o, none⟩ = some (.int .i64 c.kind)
  c1 : w.cell? ⟨b, o + 1, none⟩ = some (.int .i64 c.index)
  c2 : w.cell? ⟨b, o + 2, none⟩ = some (.int .i64 c.n)
  c3 : w.cell? ⟨b, o + 3, none⟩ = some (.string c.lib)
  c4 : w.cell? ⟨b, o + 4, none⟩ = some (.string c.own)
  c5 : w.cell? ⟨b, o + 5, none⟩ = some (.int .i64 c.quote.kind)
  c6 : w.cell? ⟨b, o + 6, none⟩ = some (.int .i64 c.quote.n)
  c7 : w.cell? ⟨b, o + 7, none⟩ = some (.string c.quote.name)
  c8 : w.cell? ⟨b, o + 8, none⟩ = some (.int .i64 c.quote.stamp)
  c9 : w.cell? ⟨b, o + 9, none⟩ = some (.int .i64 c.quote.lib)
  c10 : w.cell? ⟨b, o + 10, none⟩ = some (.slice qa c.quote.kids.length qc)
  c11 : w.cell? ⟨b, o + 11, none⟩ = some (.slice ka c.kids.length kc)
theorem Nc.stay {w w' : World} {b o : Nat} {c : Cor} {qa : Option Addr} {qc : Nat} {ka : Option Addr} {kc : Nat} (h : Nc w b o c qa qc ka kc) (hw : w'.heap[b]? = w.heap[b]?) : Nc w' b o c qa qc ka kc := by
  have e : ∀ q, w'.cell? ⟨b, q, none⟩ = w.cell? ⟨b, q, none⟩ := fun q => World.cell?_of_block hw
  exact ⟨(e _).trans h.c0, (e _).trans h.c1, (e _).trans h.c2, (e _).trans h.c3, (e _).trans h.c4, (e _).trans h.c5, (e _).trans h.c6, (e _).trans h.c7, (e _).trans h.c8, (e _).trans h.c9, (e _).trans h.c10, (e _).trans h.c11⟩
/-- What a node in memory has beside its cells. -/
def NcOk (c : Cor) (qc kc : Nat) : Prop := c.lib.size ≤ maxLen ∧ c.own.size ≤ maxLen ∧ c.quote.name.size ≤ maxLen ∧ c.quote.kids.length ≤ qc ∧ c.kids.length ≤ kc
/-- Expressions lie behind a, in blocks below B. -/
def Cc (B : Nat) (w : World) : Nat → Option Addr → List Cor → Prop
  | 0, _, cs => cs = []
  | f + 1, a, cs => cs.length ≤ 9223372036854775807 ∧ (cs = [] ∨ ∃ b o, a = some ⟨b, o, none⟩ ∧ b < B ∧ ∀ (i : Nat) (c : Cor), cs[i]? = some c → ∃ qa qc ka kc,
      Nc w b (o + i * 12) c qa qc ka kc ∧ NcOk c qc kc ∧ Dc (fun k => k < B) w f qa c.quote.kids ∧ Cc B w f ka c.kids)
/-- An expression lies at a place. -/
def Cn (B : Nat) (w : World) (f b o : Nat) (c : Cor) : Prop := b < B ∧ ∃ qa qc ka kc, Nc w b o c qa qc ka kc ∧ NcOk c qc kc ∧ Dc (fun k => k < B) w f qa c.quote.kids ∧ Cc B w f ka c.kids
theorem Cc.stay {B : Nat} {w w' : World} (hw : ∀ k, k < B → w'.heap[k]? = w.heap[k]?) : ∀ (f : Nat) (a : Option Addr) (cs : List Cor), Cc B w f a cs → Cc B w' f a cs
  | 0, _, _, h => h
  | f + 1, a, cs, h => by
    obtain ⟨hl, h⟩ := h
    refine ⟨hl, ?_⟩
    rcases h with h | ⟨b, o, ha, hb, h⟩
    · exact Or.inl h
    · refine Or.inr ⟨b, o, ha, hb, fun i c hc => ?_⟩
      obtain ⟨qa, qc, ka, kc, h1, h2, h3, h4⟩ := h i c hc
      exact ⟨qa, qc, ka, kc, h1.stay (hw b hb), h2, Dc.stay (fun k hk => hw k hk) (fun _ hk => hk) _ _ _ h3, Cc.stay hw f ka _ h4⟩
theorem Cn.stay {B : Nat} {w w' : World} {f b o : Nat} {c : Cor} (h : Cn B w f b o c) (hw : ∀ k, k < B → w'.heap[k]? = w.heap[k]?) : Cn B w' f b o c := by
  obtain ⟨hb, qa, qc, ka, kc, h1, h2, h3, h4⟩ := h
  exact ⟨hb, qa, qc, ka, kc, h1.stay (hw b hb), h2, Dc.stay (fun k hk => hw k hk) (fun _ hk => hk) _ _ _ h3, Cc.stay hw f ka _ h4⟩
theorem Cc.below {B : Nat} {w w' : World} {f : Nat} {a : Option Addr} {cs : List Cor} (h : Cc B w f a cs) (hb : Below B w w') : Cc B w' f a cs := Cc.stay (fun k hk => hb.block k hk) f a cs h
theorem Cn.below {B : Nat} {w w' : World} {f b o : Nat} {c : Cor} (h : Cn B w f b o c) (hb : Below B w w') : Cn B w' f b o c := h.stay (fun k hk => hb.block k hk)
theorem Cc.len {B : Nat} {w : World} {f : Nat} {a : Option Addr} {cs : List Cor} (h : Cc B w f a cs) : cs.length ≤ 9223372036854775807 := by
  cases f with
  | zero => rw [show cs = [] from h]; exact Nat.zero_le _
  | succ f => exact h.1
theorem Cc.at {B : Nat} {w : World} {f : Nat} {a : Option Addr} {cs : List Cor} (h : Cc B w f a cs) (h0 : cs ≠ []) : ∃ g b o, f = g + 1 ∧ a = some ⟨b, o, none⟩ ∧ ∀ (i : Nat) (c : Cor), cs[i]? = some c → Cn B w g b (o + i * 12) c := by
  cases f with
  | zero => exact absurd h h0
  | succ f =>
    rcases h.2 with h | ⟨b, o, ha, hb, h⟩
    · exact absurd h h0
    · exact ⟨f, b, o, rfl, ha, fun i c hc => ⟨hb, h i c hc⟩⟩

set_option maxRecDepth 100000 in
set_option maxHeartbeats 1600000 in
theorem argsOf_any (o : ByteArray) (w : World) : Calls Tryz.prog 146 #[.string o] w fun e w' => e = .returned (.int .i64 (argsB o)) ∧ w' = w := by
  unfold argsB primTab
  simp only [argsTab]
  by_cases h0 : o = ⟨#[99, 97, 114]⟩
  · have e0 : (o.toList == [99, 97, 114]) = true := by rw [h0]; decide +kernel
    rw [if_pos h0]
    clear h0
    go_enter Tryz.func146, Tryz.ntmps146
    go_wp2_with fail
    go_ret
    exact ⟨rfl, rfl⟩
  have e0 : (o.toList == [99, 97, 114]) = false := by have h := beqS_ne h0; simpa [ByteArray.toList_eq] using h
  rw [if_neg h0]
  clear h0
  by_cases h1 : o = ⟨#[99, 100, 114]⟩
  · have e1 : (o.toList == [99, 100, 114]) = true := by rw [h1]; decide +kernel
    rw [if_pos h1]
    clear h1
    go_enter Tryz.func146, Tryz.ntmps146
    go_wp2_with fail
    go_ret
    exact ⟨rfl, rfl⟩
  have e1 : (o.toList == [99, 100, 114]) = false := by have h := beqS_ne h1; simpa [ByteArray.toList_eq] using h
  rw [if_neg h1]
  clear h1
  by_cases h2 : o = ⟨#[110, 111, 116]⟩
  · have e2 : (o.toList == [110, 111, 116]) = true := by rw [h2]; decide +kernel
    rw [if_pos h2]
    clear h2
    go_enter Tryz.func146, Tryz.ntmps146
    go_wp2_with fail
    go_ret
    exact ⟨rfl, rfl⟩
  have e2 : (o.toList == [110, 111, 116]) = false := by have h := beqS_ne h2; simpa [ByteArray.toList_eq] using h
  rw [if_neg h2]
  clear h2
  by_cases h3 : o = ⟨#[110, 117, 108, 108, 63]⟩
  · have e3 : (o.toList == [110, 117, 108, 108, 63]) = true := by rw [h3]; decide +kernel
    rw [if_pos h3]
    clear h3
    go_enter Tryz.func146, Tryz.ntmps146
    go_wp2_with fail
    go_ret
    exact ⟨rfl, rfl⟩
  have e3 : (o.toList == [110, 117, 108, 108, 63]) = false := by have h := beqS_ne h3; simpa [ByteArray.toList_eq] using h
  rw [if_neg h3]
  clear h3
  by_cases h4 : o = ⟨#[111, 117, 116]⟩
  · have e4 : (o.toList == [111, 117, 116]) = true := by rw [h4]; decide +kernel
    rw [if_pos h4]
    clear h4
    go_enter Tryz.func146, Tryz.ntmps146
    go_wp2_with fail
    go_ret
    exact ⟨rfl, rfl⟩
  have e4 : (o.toList == [111, 117, 116]) = false := by have h := beqS_ne h4; simpa [ByteArray.toList_eq] using h
  rw [if_neg h4]
  clear h4
  by_cases h5 : o = ⟨#[112, 97, 105, 114, 63]⟩
  · have e5 : (o.toList == [112, 97, 105, 114, 63]) = true := by rw [h5]; decide +kernel
    rw [if_pos h5]
    clear h5
    go_enter Tryz.func146, Tryz.ntmps146
    go_wp2_with fail
    go_ret
    exact ⟨rfl, rfl⟩
  have e5 : (o.toList == [112, 97, 105, 114, 63]) = false := by have h := beqS_ne h5; simpa [ByteArray.toList_eq] using h
  rw [if_neg h5]
  clear h5
  by_cases h6 : o = ⟨#[42]⟩
  · have e6 : (o.toList == [42]) = true := by rw [h6]; decide +kernel
    rw [if_pos h6]
    clear h6
    go_enter Tryz.func146, Tryz.ntmps146
    go_wp2_with fail
    go_ret
    exact ⟨rfl, rfl⟩
  have e6 : (o.toList == [42]) = false := by have h := beqS_ne h6; simpa [ByteArray.toList_eq] using h
  rw [if_neg h6]
  clear h6
  by_cases h7 : o = ⟨#[43]⟩
  · have e7 : (o.toList == [43]) = true := by rw [h7]; decide +kernel
    rw [if_pos h7]
    clear h7
    go_enter Tryz.func146, Tryz.ntmps146
    go_wp2_with fail
    go_ret
    exact ⟨rfl, rfl⟩
  have e7 : (o.toList == [43]) = false := by have h := beqS_ne h7; simpa [ByteArray.toList_eq] using h
  rw [if_neg h7]
  clear h7
  by_cases h8 : o = ⟨#[45]⟩
  · have e8 : (o.toList == [45]) = true := by rw [h8]; decide +kernel
    rw [if_pos h8]
    clear h8
    go_enter Tryz.func146, Tryz.ntmps146
    go_wp2_with fail
    go_ret
    exact ⟨rfl, rfl⟩
  have e8 : (o.toList == [45]) = false := by have h := beqS_ne h8; simpa [ByteArray.toList_eq] using h
  rw [if_neg h8]
  clear h8
  by_cases h9 : o = ⟨#[60]⟩
  · have e9 : (o.toList == [60]) = true := by rw [h9]; decide +kernel
    rw [if_pos h9]
    clear h9
    go_enter Tryz.func146, Tryz.ntmps146
    go_wp2_with fail
    go_ret
    exact ⟨rfl, rfl⟩
  have e9 : (o.toList == [60]) = false := by have h := beqS_ne h9; simpa [ByteArray.toList_eq] using h
  rw [if_neg h9]
  clear h9
  by_cases h10 : o = ⟨#[61]⟩
  · have e10 : (o.toList == [61]) = true := by rw [h10]; decide +kernel
    rw [if_pos h10]
    clear h10
    go_enter Tryz.func146, Tryz.ntmps146
    go_wp2_with fail
    go_ret
    exact ⟨rfl, rfl⟩
  have e10 : (o.toList == [61]) = false := by have h := beqS_ne h10; simpa [ByteArray.toList_eq] using h
  rw [if_neg h10]
  clear h10
  by_cases h11 : o = ⟨#[99, 111, 110, 115]⟩
  · have e11 : (o.toList == [99, 111, 110, 115]) = true := by rw [h11]; decide +kernel
    rw [if_pos h11]
    clear h11
    go_enter Tryz.func146, Tryz.ntmps146
    go_wp2_with fail
    go_ret
    exact ⟨rfl, rfl⟩
  have e11 : (o.toList == [99, 111, 110, 115]) = false := by have h := beqS_ne h11; simpa [ByteArray.toList_eq] using h
  rw [if_neg h11]
  clear h11
  by_cases h12 : o = ⟨#[101, 113, 63]⟩
  · have e12 : (o.toList == [101, 113, 63]) = true := by rw [h12]; decide +kernel
    rw [if_pos h12]
    clear h12
    go_enter Tryz.func146, Tryz.ntmps146
    go_wp2_with fail
    go_ret
    exact ⟨rfl, rfl⟩
  have e12 : (o.toList == [101, 113, 63]) = false := by have h := beqS_ne h12; simpa [ByteArray.toList_eq] using h
  rw [if_neg h12]
  clear h12
  go_enter Tryz.func146, Tryz.ntmps146
  go_wp2_with fail
  go_ret
  exact ⟨rfl, rfl⟩

set_option maxRecDepth 100000 in
set_option maxHeartbeats 1600000 in
theorem mRange_any (n : Int) (w : World) : Calls Tryz.prog 145 #[.int .i64 n] w fun e w' => e = .returned (.bool (decide (-1000000000000000 ≤ n ∧ n ≤ 1000000000000000))) ∧ w' = w := by
  by_cases h0 : -1000000000000000 ≤ n
  · by_cases h1 : n ≤ 1000000000000000
    · go_enter Tryz.func145, Tryz.ntmps145
      go_wp2_with fail
      go_ret
      simp [h0, h1]
    · go_enter Tryz.func145, Tryz.ntmps145
      go_wp2_with fail
      go_ret
      simp [h0, h1]
  · go_enter Tryz.func145, Tryz.ntmps145
    go_wp2_with fail
    go_ret
    simp
    intro h
    omega

set_option maxRecDepth 100000 in
set_option maxHeartbeats 3200000 in
theorem wrongKids_any (k : Int) (n : Nat) (hn : n ≤ 9223372036854775807) (w : World) : Calls Tryz.prog 121 #[.int .i64 k, .int .i64 n] w fun e w' => e = .returned (.int .i64 (wkids k n)) ∧ w' = w := by
  by_cases k1 : k = 1
  · subst k1
    by_cases hc : n = 0
    · rw [show wkids 1 n = 0 by simp [wkids, hc]]
      have hd : ((n : Int) == 0) = true := by simp; omega
      clear hc hn
      go_enter Tryz.func121, Tryz.ntmps121
      go_wp2_with fail
      go_ret
      exact ⟨rfl, rfl⟩
    · rw [show wkids 1 n = 5 by simp [wkids, hc]]
      have hd : ((n : Int) == 0) = false := by simp; omega
      clear hc hn
      go_enter Tryz.func121, Tryz.ntmps121
      go_wp2_with fail
      go_ret
      exact ⟨rfl, rfl⟩
  by_cases k2 : k = 2
  · subst k2
    by_cases hc : n = 0
    · rw [show wkids 2 n = 0 by simp [wkids, hc]]
      have hd : ((n : Int) == 0) = true := by simp; omega
      clear hc hn
      go_enter Tryz.func121, Tryz.ntmps121
      go_wp2_with fail
      go_ret
      exact ⟨rfl, rfl⟩
    · rw [show wkids 2 n = 5 by simp [wkids, hc]]
      have hd : ((n : Int) == 0) = false := by simp; omega
      clear hc hn
      go_enter Tryz.func121, Tryz.ntmps121
      go_wp2_with fail
      go_ret
      exact ⟨rfl, rfl⟩
  by_cases k3 : k = 3
  · subst k3
    by_cases hc : n = 0
    · rw [show wkids 3 n = 0 by simp [wkids, hc]]
      have hd : ((n : Int) == 0) = true := by simp; omega
      clear hc hn
      go_enter Tryz.func121, Tryz.ntmps121
      go_wp2_with fail
      go_ret
      exact ⟨rfl, rfl⟩
    · rw [show wkids 3 n = 5 by simp [wkids, hc]]
      have hd : ((n : Int) == 0) = false := by simp; omega
      clear hc hn
      go_enter Tryz.func121, Tryz.ntmps121
      go_wp2_with fail
      go_ret
      exact ⟨rfl, rfl⟩
  by_cases k4 : k = 4
  · subst k4
    by_cases hc : n = 0
    · rw [show wkids 4 n = 0 by simp [wkids, hc]]
      have hd : ((n : Int) == 0) = true := by simp; omega
      clear hc hn
      go_enter Tryz.func121, Tryz.ntmps121
      go_wp2_with fail
      go_ret
      exact ⟨rfl, rfl⟩
    · rw [show wkids 4 n = 5 by simp [wkids, hc]]
      have hd : ((n : Int) == 0) = false := by simp; omega
      clear hc hn
      go_enter Tryz.func121, Tryz.ntmps121
      go_wp2_with fail
      go_ret
      exact ⟨rfl, rfl⟩
  by_cases k5 : k = 5
  · subst k5
    by_cases hc : n = 0
    · rw [show wkids 5 n = 0 by simp [wkids, hc]]
      have hd : ((n : Int) == 0) = true := by simp; omega
      clear hc hn
      go_enter Tryz.func121, Tryz.ntmps121
      go_wp2_with fail
      go_ret
      exact ⟨rfl, rfl⟩
    · rw [show wkids 5 n = 5 by simp [wkids, hc]]
      have hd : ((n : Int) == 0) = false := by simp; omega
      clear hc hn
      go_enter Tryz.func121, Tryz.ntmps121
      go_wp2_with fail
      go_ret
      exact ⟨rfl, rfl⟩
  by_cases k6 : k = 6
  · subst k6
    by_cases hc : n = 0
    · rw [show wkids 6 n = 0 by simp [wkids, hc]]
      have hd : ((n : Int) == 0) = true := by simp; omega
      clear hc hn
      go_enter Tryz.func121, Tryz.ntmps121
      go_wp2_with fail
      go_ret
      exact ⟨rfl, rfl⟩
    · rw [show wkids 6 n = 5 by simp [wkids, hc]]
      have hd : ((n : Int) == 0) = false := by simp; omega
      clear hc hn
      go_enter Tryz.func121, Tryz.ntmps121
      go_wp2_with fail
      go_ret
      exact ⟨rfl, rfl⟩
  by_cases k8 : k = 8
  · subst k8
    by_cases hc : n = 1
    · rw [show wkids 8 n = 0 by simp [wkids, hc]]
      have hd : ((n : Int) == 1) = true := by simp; omega
      clear hc hn
      go_enter Tryz.func121, Tryz.ntmps121
      go_wp2_with fail
      go_ret
      exact ⟨rfl, rfl⟩
    · rw [show wkids 8 n = 5 by simp [wkids, hc]]
      have hd : ((n : Int) == 1) = false := by simp; omega
      clear hc hn
      go_enter Tryz.func121, Tryz.ntmps121
      go_wp2_with fail
      go_ret
      exact ⟨rfl, rfl⟩
  by_cases k10 : k = 10
  · subst k10
    by_cases hc : n = 1
    · rw [show wkids 10 n = 0 by simp [wkids, hc]]
      have hd : ((n : Int) == 1) = true := by simp; omega
      clear hc hn
      go_enter Tryz.func121, Tryz.ntmps121
      go_wp2_with fail
      go_ret
      exact ⟨rfl, rfl⟩
    · rw [show wkids 10 n = 5 by simp [wkids, hc]]
      have hd : ((n : Int) == 1) = false := by simp; omega
      clear hc hn
      go_enter Tryz.func121, Tryz.ntmps121
      go_wp2_with fail
      go_ret
      exact ⟨rfl, rfl⟩
  by_cases k11 : k = 11
  · subst k11
    by_cases hc : n = 1
    · rw [show wkids 11 n = 0 by simp [wkids, hc]]
      have hd : ((n : Int) == 1) = true := by simp; omega
      clear hc hn
      go_enter Tryz.func121, Tryz.ntmps121
      go_wp2_with fail
      go_ret
      exact ⟨rfl, rfl⟩
    · rw [show wkids 11 n = 5 by simp [wkids, hc]]
      have hd : ((n : Int) == 1) = false := by simp; omega
      clear hc hn
      go_enter Tryz.func121, Tryz.ntmps121
      go_wp2_with fail
      go_ret
      exact ⟨rfl, rfl⟩
  by_cases k13 : k = 13
  · subst k13
    by_cases hc : n = 1
    · rw [show wkids 13 n = 0 by simp [wkids, hc]]
      have hd : ((n : Int) == 1) = true := by simp; omega
      clear hc hn
      go_enter Tryz.func121, Tryz.ntmps121
      go_wp2_with fail
      go_ret
      exact ⟨rfl, rfl⟩
    · rw [show wkids 13 n = 5 by simp [wkids, hc]]
      have hd : ((n : Int) == 1) = false := by simp; omega
      clear hc hn
      go_enter Tryz.func121, Tryz.ntmps121
      go_wp2_with fail
      go_ret
      exact ⟨rfl, rfl⟩
  by_cases k7 : k = 7
  · subst k7
    by_cases hc : n = 3
    · rw [show wkids 7 n = 0 by simp [wkids, hc]]
      have hd : ((n : Int) == 3) = true := by simp; omega
      clear hc hn
      go_enter Tryz.func121, Tryz.ntmps121
      go_wp2_with fail
      go_ret
      exact ⟨rfl, rfl⟩
    · rw [show wkids 7 n = 5 by simp [wkids, hc]]
      have hd : ((n : Int) == 3) = false := by simp; omega
      clear hc hn
      go_enter Tryz.func121, Tryz.ntmps121
      go_wp2_with fail
      go_ret
      exact ⟨rfl, rfl⟩
  by_cases k9 : k = 9
  · subst k9
    by_cases hc : 1 ≤ n
    · rw [show wkids 9 n = 0 by simp [wkids, hc]]
      have hd : (1 : Int) ≤ n := by omega
      clear hc hn
      go_enter Tryz.func121, Tryz.ntmps121
      go_wp2_with fail
      go_ret
      exact ⟨rfl, rfl⟩
    · rw [show wkids 9 n = 5 by simp [wkids, hc]]
      have hd : ¬ (1 : Int) ≤ n := by omega
      clear hc hn
      go_enter Tryz.func121, Tryz.ntmps121
      go_wp2_with fail
      go_ret
      exact ⟨rfl, rfl⟩
  by_cases k12 : k = 12
  · subst k12
    by_cases hc : 1 ≤ n
    · rw [show wkids 12 n = 0 by simp [wkids, hc]]
      have hd : (1 : Int) ≤ n := by omega
      clear hc hn
      go_enter Tryz.func121, Tryz.ntmps121
      go_wp2_with fail
      go_ret
      exact ⟨rfl, rfl⟩
    · rw [show wkids 12 n = 5 by simp [wkids, hc]]
      have hd : ¬ (1 : Int) ≤ n := by omega
      clear hc hn
      go_enter Tryz.func121, Tryz.ntmps121
      go_wp2_with fail
      go_ret
      exact ⟨rfl, rfl⟩
  rw [show wkids k n = 1 by simp [wkids, k1, k2, k3, k4, k5, k6, k8, k10, k11, k13, k7, k9, k12]]
  have j1 : (k == 1) = false := by simpa using k1
  have j2 : (k == 2) = false := by simpa using k2
  have j3 : (k == 3) = false := by simpa using k3
  have j4 : (k == 4) = false := by simpa using k4
  have j5 : (k == 5) = false := by simpa using k5
  have j6 : (k == 6) = false := by simpa using k6
  have j8 : (k == 8) = false := by simpa using k8
  have j10 : (k == 10) = false := by simpa using k10
  have j11 : (k == 11) = false := by simpa using k11
  have j13 : (k == 13) = false := by simpa using k13
  have j7 : (k == 7) = false := by simpa using k7
  have j9 : (k == 9) = false := by simpa using k9
  have j12 : (k == 12) = false := by simpa using k12
  clear k1 k2 k3 k4 k5 k6 k8 k10 k11 k13 k7 k9 k12 hn
  go_enter Tryz.func121, Tryz.ntmps121
  go_wp2_with fail
  go_ret
  exact ⟨rfl, rfl⟩
end
section
set_option linter.unusedVariables false
set_option linter.unusedSimpArgs false
open Go.RowKit

theorem field_fault (x y : Int) (w : World) : (Instr.field 42 (.agg #[.int .i64 x, .int .i64 y]) 0).run Tryz.prog w = .ok (.int .i64 x) w := by
  simp [Instr.field, run_underlying Tryz.underlying42, go_sem, asAgg]

theorem Lies.mono {B B' : Nat} {w : World} (hB : B ≤ B') : ∀ (f : Nat) (a : Option Addr) (ds : List Dat), Lies B w f a ds → Lies B' w f a ds
  | 0, _, _, h => h
  | f + 1, a, ds, h => by
    obtain ⟨hl, h⟩ := h
    refine ⟨hl, ?_⟩
    rcases h with h | ⟨b, o, ha, hb, h⟩
    · exact Or.inl h
    · refine Or.inr ⟨b, o, ha, Nat.lt_of_lt_of_le hb hB, fun i d hd => ?_⟩
      obtain ⟨a', cap, c0, c1, c2, c3, c4, c5, hn, hk⟩ := h i d hd
      exact ⟨a', cap, c0, c1, c2, c3, c4, c5, hn, Lies.mono hB f a' _ hk⟩
/-- One datum in a block of its own. -/
theorem Lies.one {B f : Nat} {w : World} {d : Dat} {a : Option Addr} {cap : Nat} (hB : B ≤ w.heap.size) (h : Lies B w f a d.kids) (hn : d.name.size ≤ maxLen) :
    Lies (w.heap.size + 1) (w.alloc (.cells #[.int .i64 d.kind, .int .i64 d.n, .string d.name, .int .i64 d.stamp, .int .i64 d.lib, .slice a d.kids.length cap] 50)) (f + 1) (some ⟨w.heap.size, 0, none⟩) [d] := by
  have hN := World.alloc_heap_new w (.cells #[.int .i64 d.kind, .int .i64 d.n, .string d.name, .int .i64 d.stamp, .int .i64 d.lib, .slice a d.kids.length cap] 50)
  have hc : ∀ q, (w.alloc (.cells #[.int .i64 d.kind, .int .i64 d.n, .string d.name, .int .i64 d.stamp, .int .i64 d.lib, .slice a d.kids.length cap] 50)).cell? ⟨w.heap.size, q, none⟩ = #[Value.int .i64 d.kind, .int .i64 d.n, .string d.name, .int .i64 d.stamp, .int .i64 d.lib, .slice a d.kids.length cap][q]? := fun q => World.cell?_alloc_mark w _ 50 (0, 0) q
  refine ⟨by simp, Or.inr ⟨w.heap.size, 0, rfl, by omega, ?_⟩⟩
  intro i e he
  cases i with
  | succ i => simp at he
  | zero =>
    simp at he
    subst he
    refine ⟨a, cap, (hc _).trans rfl, (hc _).trans rfl, (hc _).trans rfl, (hc _).trans rfl, (hc _).trans rfl, (hc _).trans rfl, hn, ?_⟩
    have h2 : Lies B (w.alloc (.cells #[.int .i64 d.kind, .int .i64 d.n, .string d.name, .int .i64 d.stamp, .int .i64 d.lib, .slice a d.kids.length cap] 50)) f a d.kids := h.below ((Below.refl _ _).alloc hB _)
    exact Lies.mono (by omega) f a _ h2

set_option maxRecDepth 100000 in
set_option maxHeartbeats 3200000 in
theorem wrongFields_any (B f b o : Nat) (c : Cor) (ar : Int) (w : World) (hc : Cn B w f b o c) (hB : B ≤ w.heap.size) :
    Calls Tryz.prog 122 #[.pointer (some ⟨b, o, none⟩), .int .i64 ar] w fun e w' => e = .returned (.int .i64 (wfields c ar)) ∧ Below w.heap.size w w' := by
  obtain ⟨hb, qa, qc, ka, kc, nc, ok, hq, hk⟩ := hc
  obtain ⟨c0, c1, c2, c3, c4, c5, c6, c7, c8, c9, c10, c11⟩ := nc
  have WR : Hid (Calls Tryz.prog 107 #[.slice (some ⟨w.heap.size, 0, none⟩) 1 1] (w.alloc (.cells #[.int .i64 c.quote.kind, .int .i64 c.quote.n, .string c.quote.name, .int .i64 c.quote.stamp, .int .i64 c.quote.lib, .slice qa c.quote.kids.length qc] 50)) fun e w' => e = .returned (fv (wrong [c.quote])) ∧ Below (w.alloc (.cells #[.int .i64 c.quote.kind, .int .i64 c.quote.n, .string c.quote.name, .int .i64 c.quote.stamp, .int .i64 c.quote.lib, .slice qa c.quote.kids.length qc] 50)).heap.size (w.alloc (.cells #[.int .i64 c.quote.kind, .int .i64 c.quote.n, .string c.quote.name, .int .i64 c.quote.stamp, .int .i64 c.quote.lib, .slice qa c.quote.kids.length qc] 50)) w') := by
    have h5 := Wrong_any (w.heap.size + 1) (f + 1) [c.quote] (some ⟨w.heap.size, 0, none⟩) 1 _ (Lies.one (cap := qc) hB (Dc.lies (fun _ h => h) _ _ _ hq) ok.2.2.1) (by simp)
    exact h5
  have hos := ok.2.1
  clear ok hq hk hb
  obtain ⟨k, i, n, lb, ow, q, ks⟩ := c
  simp only at c0 c1 c2 c3 c4 c5 c6 c7 c8 c9 c10 c11 WR hos
  by_cases k1 : k = 1
  · subst k1
    by_cases hr : -1000000000000000 ≤ n ∧ n ≤ 1000000000000000
    · rw [show wfields ⟨1, i, n, lb, ow, q, ks⟩ ar = 0 by simp [wfields, hr]]
      clear WR
      go_enter Tryz.func122, Tryz.ntmps122
      go_wp2_with fail
      refine (mRange_any n _).mono ?_
      rintro e w1 ⟨rfl, rfl⟩
      rw [show decide (-1000000000000000 ≤ n ∧ n ≤ 1000000000000000) = true by simp [hr]]
      clear hr
      go_wp2_with fail
      go_ret
      exact ⟨rfl, Below.refl _ _⟩
    · rw [show wfields ⟨1, i, n, lb, ow, q, ks⟩ ar = 3 by simp [wfields, hr]]
      clear WR
      go_enter Tryz.func122, Tryz.ntmps122
      go_wp2_with fail
      refine (mRange_any n _).mono ?_
      rintro e w1 ⟨rfl, rfl⟩
      rw [show decide (-1000000000000000 ≤ n ∧ n ≤ 1000000000000000) = false by simp [hr]]
      clear hr
      go_wp2_with fail
      go_ret
      exact ⟨rfl, Below.refl _ _⟩
  by_cases k2 : k = 2
  · subst k2
    by_cases h0 : n = 0
    · rw [show wfields ⟨2, i, n, lb, ow, q, ks⟩ ar = 0 by simp [wfields, h0]]
      subst h0
      clear WR
      go_enter Tryz.func122, Tryz.ntmps122
      go_wp2_with fail
      go_ret
      exact ⟨rfl, Below.refl _ _⟩
    have h0' : (n == 0) = false := by simpa using h0
    by_cases h1 : n = 1
    · rw [show wfields ⟨2, i, n, lb, ow, q, ks⟩ ar = 0 by simp [wfields, h1]]
      subst h1
      clear WR
      go_enter Tryz.func122, Tryz.ntmps122
      go_wp2_with fail
      go_ret
      exact ⟨rfl, Below.refl _ _⟩
    rw [show wfields ⟨2, i, n, lb, ow, q, ks⟩ ar = 3 by simp [wfields, h0, h1]]
    have h1' : (n == 1) = false := by simpa using h1
    clear WR h0 h1
    go_enter Tryz.func122, Tryz.ntmps122
    go_wp2_with fail
    go_ret
    exact ⟨rfl, Below.refl _ _⟩
  by_cases k4 : k = 4
  · subst k4
    by_cases h0 : 0 ≤ i
    · by_cases h1 : i < ar
      · rw [show wfields ⟨4, i, n, lb, ow, q, ks⟩ ar = 0 by simp [wfields, h0, h1]]
        clear WR
        go_enter Tryz.func122, Tryz.ntmps122
        go_wp2_with fail
        go_ret
        exact ⟨rfl, Below.refl _ _⟩
      · rw [show wfields ⟨4, i, n, lb, ow, q, ks⟩ ar = 3 by simp [wfields, h0, h1]]
        clear WR
        go_enter Tryz.func122, Tryz.ntmps122
        go_wp2_with fail
        go_ret
        exact ⟨rfl, Below.refl _ _⟩
    · rw [show wfields ⟨4, i, n, lb, ow, q, ks⟩ ar = 3 by simp [wfields, h0]]
      clear WR
      go_enter Tryz.func122, Tryz.ntmps122
      go_wp2_with fail
      go_ret
      exact ⟨rfl, Below.refl _ _⟩
  by_cases k10 : k = 10
  · subst k10
    by_cases h0 : 0 ≤ i
    · by_cases h1 : i < ar
      · rw [show wfields ⟨10, i, n, lb, ow, q, ks⟩ ar = 0 by simp [wfields, h0, h1]]
        clear WR
        go_enter Tryz.func122, Tryz.ntmps122
        go_wp2_with fail
        go_ret
        exact ⟨rfl, Below.refl _ _⟩
      · rw [show wfields ⟨10, i, n, lb, ow, q, ks⟩ ar = 3 by simp [wfields, h0, h1]]
        clear WR
        go_enter Tryz.func122, Tryz.ntmps122
        go_wp2_with fail
        go_ret
        exact ⟨rfl, Below.refl _ _⟩
    · rw [show wfields ⟨10, i, n, lb, ow, q, ks⟩ ar = 3 by simp [wfields, h0]]
      clear WR
      go_enter Tryz.func122, Tryz.ntmps122
      go_wp2_with fail
      go_ret
      exact ⟨rfl, Below.refl _ _⟩
  by_cases k8 : k = 8
  · subst k8
    by_cases h0 : 0 ≤ i
    · by_cases h1 : i ≤ 2000
      · rw [show wfields ⟨8, i, n, lb, ow, q, ks⟩ ar = 0 by simp [wfields, h0, h1]]
        clear WR
        go_enter Tryz.func122, Tryz.ntmps122
        go_wp2_with fail
        go_ret
        exact ⟨rfl, Below.refl _ _⟩
      · rw [show wfields ⟨8, i, n, lb, ow, q, ks⟩ ar = 3 by simp [wfields, h0, h1]]
        clear WR
        go_enter Tryz.func122, Tryz.ntmps122
        go_wp2_with fail
        go_ret
        exact ⟨rfl, Below.refl _ _⟩
    · rw [show wfields ⟨8, i, n, lb, ow, q, ks⟩ ar = 3 by simp [wfields, h0]]
      clear WR
      go_enter Tryz.func122, Tryz.ntmps122
      go_wp2_with fail
      go_ret
      exact ⟨rfl, Below.refl _ _⟩
  by_cases k6 : k = 6
  · subst k6
    have HA := hidd (argsOf_any ow w)
    clear WR
    by_cases h0 : argsB ow = 0
    · rw [show wfields ⟨6, i, n, lb, ow, q, ks⟩ ar = 7 by simp [wfields, h0]]
      rw [h0] at HA
      clear h0
      go_enter Tryz.func122, Tryz.ntmps122
      go_wp2_with fail
      refine HA.out.mono ?_
      rintro e w1 ⟨rfl, rfl⟩
      go_wp2_with fail
      go_ret
      exact ⟨rfl, Below.refl _ _⟩
    · rw [show wfields ⟨6, i, n, lb, ow, q, ks⟩ ar = 0 by simp [wfields, h0]]
      generalize argsB ow = z at HA h0
      have h0' : (z == 0) = false := by simpa using h0
      clear h0
      go_enter Tryz.func122, Tryz.ntmps122
      go_wp2_with fail
      refine HA.out.mono ?_
      rintro e w1 ⟨rfl, rfl⟩
      go_wp2_with fail
      go_ret
      exact ⟨rfl, Below.refl _ _⟩
  by_cases k3 : k = 3
  · subst k3
    rw [show wfields ⟨3, i, n, lb, ow, q, ks⟩ ar = (wrong [q]).1 by simp [wfields]]
    generalize wrong [q] = y at WR ⊢
    obtain ⟨y1, y2⟩ := y
    unfold fv at WR
    simp only at WR ⊢
    go_enter Tryz.func122, Tryz.ntmps122
    go_wp2_with fail
    refine WR.out.mono ?_
    rintro e w1 ⟨rfl, hb1⟩
    have hb2 := hidd (((Below.refl _ _).alloc (Nat.le_refl _) _).trans (hb1.mono (by simp)))
    have hfl := field_fault y1 y2 w1
    clear hb1 c0 c1 c2 c3 c4 c5 c6 c7 c8 c9 c10 c11
    go_wp2_with fail
    go_ret
    exact ⟨rfl, hb2.out⟩
  rw [show wfields ⟨k, i, n, lb, ow, q, ks⟩ ar = 0 by simp [wfields, k1, k2, k4, k10, k8, k6, k3]]
  have j1 : (k == 1) = false := by simpa using k1
  have j2 : (k == 2) = false := by simpa using k2
  have j4 : (k == 4) = false := by simpa using k4
  have j10 : (k == 10) = false := by simpa using k10
  have j8 : (k == 8) = false := by simpa using k8
  have j6 : (k == 6) = false := by simpa using k6
  have j3 : (k == 3) = false := by simpa using k3
  clear WR k1 k2 k4 k10 k8 k6 k3
  go_enter Tryz.func122, Tryz.ntmps122
  go_wp2_with fail
  go_ret
  exact ⟨rfl, Below.refl _ _⟩
end
section
set_option linter.unusedVariables false
set_option linter.unusedSimpArgs false
open Go.RowKit

set_option maxRecDepth 100000 in
set_option maxHeartbeats 1600000 in
theorem core_deep (p : Option Addr) (ar : Int) (cb n : Nat) (w : World) (hn : n ≤ 3000) (hc : Ctr cb n w) :
    Calls Tryz.prog 99 #[.pointer (some ⟨cb, 0, none⟩), .pointer p, .int .i64 301, .int .i64 ar] w (Told cb (4, n + 1) w) := by
  have c1 := hc.cell
  have f1 := hc.thaw
  have l1 := hc.lt
  have HC : Hid (Ctr cb n w) := hc
  clear hc
  by_cases h : (3000 : Int) < n + 1
  · go_enter Tryz.func99, Tryz.ntmps99
    go_wp2_with fail
    go_ret
    exact ⟨rfl, (Keep.refl _ _).setCell _ rfl _, HC.out.set (n + 1)⟩
  · go_enter Tryz.func99, Tryz.ntmps99
    go_wp2_with fail
    go_ret
    exact ⟨rfl, (Keep.refl _ _).setCell _ rfl _, HC.out.set (n + 1)⟩

set_option maxRecDepth 100000 in
set_option maxHeartbeats 1600000 in
theorem core_much (p : Option Addr) (ar dp : Int) (cb n : Nat) (w : World) (hn : n = 3000) (hc : Ctr cb n w) :
    Calls Tryz.prog 99 #[.pointer (some ⟨cb, 0, none⟩), .pointer p, .int .i64 dp, .int .i64 ar] w (Told cb (4, n + 1) w) := by
  have c1 := hc.cell
  have f1 := hc.thaw
  have l1 := hc.lt
  have HC : Hid (Ctr cb n w) := hc
  clear hc
  subst hn
  go_enter Tryz.func99, Tryz.ntmps99
  go_wp2_with fail
  go_ret
  exact ⟨rfl, (Keep.refl _ _).setCell _ rfl _, HC.out.set (3000 + 1)⟩

set_option maxRecDepth 100000 in
set_option maxHeartbeats 6400000 in
theorem core_step (B F f b o : Nat) (c : Cor) (ar dp : Int) (cb n : Nat) (w : World) (hc : Cn B w f b o c) (hn : n ≤ 2999) (hd0 : 1 ≤ dp) (hd : dp ≤ 300) (ha0 : 0 ≤ ar) (ha : ar ≤ 600000) (hB : B ≤ cb) (hcb : Ctr cb n w)
    (ih : ∀ (g b o : Nat) (c : Cor) (a2 : Int) (n : Nat) (w : World), 0 ≤ a2 → a2 ≤ ar + 2000 → Cn B w g b o c → n ≤ 3000 → Ctr cb n w → Calls Tryz.prog 99 #[.pointer (some ⟨cb, 0, none⟩), .pointer (some ⟨b, o, none⟩), .int .i64 (dp + 1), .int .i64 a2] w (Told cb (ckC F a2 c n) w)) :
    Calls Tryz.prog 99 #[.pointer (some ⟨cb, 0, none⟩), .pointer (some ⟨b, o, none⟩), .int .i64 dp, .int .i64 ar] w (Told cb
      (if wkids c.kind c.kids.length = 0 then (if wfields c ar = 0 then ckL (ckC F (if c.kind = 8 then ar + c.index else ar)) c.kids (n + 1) else (wfields c ar, n + 1)) else (wkids c.kind c.kids.length, n + 1)) w) := by
  have IH := hidd ih
  have HN := hidd hc
  obtain ⟨hbB, qa, qc, ka, kc, nc, ok, hq, hk⟩ := hc
  have c0' := nc.c0
  have c11' := nc.c11
  have hlen0 := hk.len
  have c1 := hcb.cell
  have f1 := hcb.thaw
  have l1 := hcb.lt
  have hbW0 : b < w.heap.size := by omega
  have hbc : b ≠ cb := by omega
  have hBw : B ≤ w.heap.size := by omega
  have HCB := hidd hcb
  clear hcb ih nc ok hq hk
  obtain ⟨k, i, nn, lb, ow, q, ks⟩ := c
  simp only at c0' c11' hlen0 ⊢
  have WK : Hid (∀ W, Calls Tryz.prog 121 #[.int .i64 k, .int .i64 ks.length] W fun e w' => e = .returned (.int .i64 (wkids k ks.length)) ∧ Below W.heap.size W w') := fun W => (wrongKids_any k ks.length hlen0 W).mono (by rintro e w' ⟨rfl, rfl⟩; exact ⟨rfl, Below.refl _ _⟩)
  obtain ⟨r, hr⟩ : ∃ r, r = (if wkids k ks.length = 0 then (if wfields ⟨k, i, nn, lb, ow, q, ks⟩ ar = 0 then ckL (ckC F (if k = 8 then ar + i else ar)) ks (n + 1) else (wfields ⟨k, i, nn, lb, ow, q, ks⟩ ar, n + 1)) else (wkids k ks.length, n + 1)) := ⟨_, rfl⟩
  rw [← hr]
  have HR := hidd hr
  clear hr
  generalize wkids k ks.length = y at WK HR
  go_enter Tryz.func99, Tryz.ntmps99
  go_upto_region 4 with fail
  have KW : Hid (Keep cb w (w.setCell ⟨cb, 0, none⟩ (.int .i64 ((n + 1 : Nat) : Int))) ∧ Ctr cb (n + 1) (w.setCell ⟨cb, 0, none⟩ (.int .i64 ((n + 1 : Nat) : Int)))) := ⟨(Keep.refl _ _).setCell _ rfl _, HCB.out.set (n + 1)⟩
  have hbW : b < (w.setCell ⟨cb, 0, none⟩ (.int .i64 ((n + 1 : Nat) : Int))).heap.size := Nat.lt_of_lt_of_le hbW0 KW.out.1.size
  have c0 : (w.setCell ⟨cb, 0, none⟩ (.int .i64 ((n + 1 : Nat) : Int))).cell? ⟨b, o, none⟩ = some (.int .i64 k) := (KW.out.1.cell (p := ⟨b, o, none⟩) hbW0 hbc).trans c0'
  have c11 : (w.setCell ⟨cb, 0, none⟩ (.int .i64 ((n + 1 : Nat) : Int))).cell? ⟨b, o + 11, none⟩ = some (.slice ka ks.length kc) := (KW.out.1.cell (p := ⟨b, o + 11, none⟩) hbW0 hbc).trans c11'
  clear c0' c11' c1 f1 HCB
  rw [show ((n : Int) + 1) = ((n + 1 : Nat) : Int) by omega]
  generalize w.setCell ⟨cb, 0, none⟩ (.int .i64 ((n + 1 : Nat) : Int)) = W0 at KW hbW c0 c11 ⊢
  refine wp_region_held_drew (S := fun u => Below W0.heap.size W0 u) (by kernel_rfl) (Below.drew (Below.refl _ _)) (fun hS => ?_)
  refine wpAnyH_take (i := 0) (oi := { dst := some 29, op := Op.move (Operand.tmp 1), type := 129, pos := _, after := _, guard := none }) (v := .pointer (some ⟨b, o, none⟩)) rfl (by kernel_rfl) (by kernel_rfl) (by kernel_rfl) (fun _ _ _ h => h) (Or.inl ⟨by rfl, fun u hu => by go_simp⟩) hS ?_
  simp only [Act.put, List.setIfInBounds_toArray, List.set_cons_zero, List.set_cons_succ]
  refine wpAnyH_take (i := 1) (oi := { dst := some 30, op := Op.nilCheck (Operand.tmp 29), type := 0, pos := _, after := _, guard := none }) (v := .pointer (some ⟨b, o, none⟩)) rfl (by kernel_rfl) (by kernel_rfl) (by kernel_rfl) (fun _ _ _ h => h) (Or.inl ⟨by rfl, fun u hu => by go_simp⟩) hS ?_
  simp only [Act.put, List.setIfInBounds_toArray, List.set_cons_zero, List.set_cons_succ]
  refine wpAnyH_take (i := 2) (oi := { dst := some 31, op := Op.fieldAddr 90 (Operand.tmp 30) 0, type := 0, pos := _, after := _, guard := none }) (v := .pointer (some ⟨b, o, none⟩)) rfl (by kernel_rfl) (by kernel_rfl) (by kernel_rfl) (fun _ _ _ h => h) (Or.inl ⟨by rfl, fun u hu => by go_simp⟩) hS ?_
  simp only [Act.put, List.setIfInBounds_toArray, List.set_cons_zero, List.set_cons_succ]
  refine wpAnyH_take (i := 3) (oi := { dst := some 32, op := Op.load 3 (Operand.tmp 31), type := 3, pos := _, after := _, guard := none }) (v := .int .i64 k) rfl (by kernel_rfl) (by kernel_rfl) (by kernel_rfl) (fun _ _ _ h => h) (Or.inl ⟨by rfl, fun u hu => by (have z := (hu.cell (p := ⟨b, o, none⟩) hbW).trans c0; go_simp)⟩) hS ?_
  simp only [Act.put, List.setIfInBounds_toArray, List.set_cons_zero, List.set_cons_succ]
  refine wpAnyH_take (i := 4) (oi := { dst := some 33, op := Op.move (Operand.tmp 1), type := 129, pos := _, after := _, guard := none }) (v := .pointer (some ⟨b, o, none⟩)) rfl (by kernel_rfl) (by kernel_rfl) (by kernel_rfl) (fun _ _ _ h => h) (Or.inl ⟨by rfl, fun u hu => by go_simp⟩) hS ?_
  simp only [Act.put, List.setIfInBounds_toArray, List.set_cons_zero, List.set_cons_succ]
  refine wpAnyH_take (i := 5) (oi := { dst := some 34, op := Op.nilCheck (Operand.tmp 33), type := 0, pos := _, after := _, guard := none }) (v := .pointer (some ⟨b, o, none⟩)) rfl (by kernel_rfl) (by kernel_rfl) (by kernel_rfl) (fun _ _ _ h => h) (Or.inl ⟨by rfl, fun u hu => by go_simp⟩) hS ?_
  simp only [Act.put, List.setIfInBounds_toArray, List.set_cons_zero, List.set_cons_succ]
  refine wpAnyH_take (i := 6) (oi := { dst := some 35, op := Op.fieldAddr 90 (Operand.tmp 34) 6, type := 0, pos := _, after := _, guard := none }) (v := .pointer (some ⟨b, o + 11, none⟩)) rfl (by kernel_rfl) (by kernel_rfl) (by kernel_rfl) (fun _ _ _ h => h) (Or.inl ⟨by rfl, fun u hu => by go_simp⟩) hS ?_
  simp only [Act.put, List.setIfInBounds_toArray, List.set_cons_zero, List.set_cons_succ]
  refine wpAnyH_take (i := 7) (oi := { dst := some 36, op := Op.load 37 (Operand.tmp 35), type := 37, pos := _, after := _, guard := none }) (v := .slice ka ks.length kc) rfl (by kernel_rfl) (by kernel_rfl) (by kernel_rfl) (fun _ _ _ h => h) (Or.inl ⟨by rfl, fun u hu => by (have z := (hu.cell (p := ⟨b, o + 11, none⟩) hbW).trans c11; go_simp)⟩) hS ?_
  simp only [Act.put, List.setIfInBounds_toArray, List.set_cons_zero, List.set_cons_succ]
  refine wpAnyH_take (i := 8) (oi := { dst := some 37, op := Op.call { callee := Callee.builtin Builtin.len, args := #[Operand.tmp 36], argTypes := #[37] }, type := 3, pos := _, after := _, guard := none }) (v := .int .i64 ks.length) rfl (by kernel_rfl) (by kernel_rfl) (by kernel_rfl) (fun _ _ _ h => h) (Or.inl ⟨by rfl, fun u hu => by go_simp⟩) hS ?_
  simp only [Act.put, List.setIfInBounds_toArray, List.set_cons_zero, List.set_cons_succ]
  refine wpAnyH_ready (rs := [9]) (by kernel_rfl) (by simp) (AllReadyH.cons (o := { dst := some 38, op := Op.call { callee := Callee.value (Operand.func 121), args := #[Operand.tmp 32, Operand.tmp 37], argTypes := #[3, 3] }, type := 26, pos := _, after := _, guard := none }) rfl (fun K hK => ?_) AllReadyH.nil)
  go_simp
  refine Calls.mono (WK.out W0.drew) ?_
  rintro e W1 ⟨rfl, hb1⟩
  have hS1 := hS.trans (hb1.mono hS.size)
  clear hb1
  show K _ W1
  refine hK.out _ _ hS1 (fun hS => ?_)
  clear hK K
  refine wpAnyH_take (i := 10) (oi := { dst := some 9, op := Op.assign (Operand.tmp 38), type := 26, pos := _, after := _, guard := none }) (v := .int .i64 y) rfl (by kernel_rfl) (by kernel_rfl) (by kernel_rfl) (fun _ _ _ h => h) (Or.inl ⟨by rfl, fun u hu => by go_simp⟩) hS ?_
  simp only [Act.put, List.setIfInBounds_toArray, List.set_cons_zero, List.set_cons_succ]
  refine wpAnyH_done (by kernel_rfl) ?_ _
  have HK1 : Hid (Keep cb w W1) := Keep.below (KW.out.1) hS
  have HC1 : Hid (Ctr cb (n + 1) W1) := KW.out.2.below hS
  clear hS KW c0 c11 WK
  by_cases hy : y = 0
  case neg =>
    have hy' : (y != 0) = true := by simpa using hy
    have hre := HR.out
    rw [if_neg hy] at hre
    subst hre
    clear HN IH hy HR
    go_wp2_with fail
    go_ret
    exact ⟨rfl, HK1.out, HC1.out⟩
  rw [if_pos hy] at HR
  subst hy
  have CN1 : Hid (Cn B W1 f b o ⟨k, i, nn, lb, ow, q, ks⟩) := HN.out.below (HK1.out.toBelow hB (by omega))
  have l1 := HC1.out.lt
  have WF : Hid (Calls Tryz.prog 122 #[.pointer (some ⟨b, o, none⟩), .int .i64 ar] W1 fun e w' => e = .returned (.int .i64 (wfields ⟨k, i, nn, lb, ow, q, ks⟩ ar)) ∧ Below W1.heap.size W1 w') := wrongFields_any B f b o _ ar W1 CN1.out (by omega)
  have HF : Hid (k = 8 → wfields ⟨k, i, nn, lb, ow, q, ks⟩ ar = 0 → 0 ≤ i ∧ i ≤ 2000) := by
    intro h8 h0
    subst h8
    simp [wfields] at h0
    exact h0
  generalize wfields ⟨k, i, nn, lb, ow, q, ks⟩ ar = z at WF HF HR
  go_wp2_with fail
  refine WF.out.mono ?_
  rintro e w2 ⟨rfl, hb2⟩
  have HK2 : Hid (Keep cb w w2) := HK1.out.below hb2
  have HC2 : Hid (Ctr cb (n + 1) w2) := HC1.out.below hb2
  clear hb2 WF HK1 HC1 CN1
  by_cases hz : z = 0
  case neg =>
    have hz' : (z != 0) = true := by simpa using hz
    have hre := HR.out
    rw [if_neg hz] at hre
    subst hre
    clear HN IH hz HF HR
    go_wp2_with fail
    go_ret
    exact ⟨rfl, HK2.out, HC2.out⟩
  rw [if_pos hz] at HR
  subst hz
  have CN2 : Hid (Cn B w2 f b o ⟨k, i, nn, lb, ow, q, ks⟩) := HN.out.below (HK2.out.toBelow hB (by omega))
  obtain ⟨_, qa2, qc2, ka2, kc2, nc2, ok2, hq2, hk2⟩ := CN2.out
  have c0 := nc2.c0
  have c1 := nc2.c1
  have c11 := nc2.c11
  simp only at c0 c1 c11
  have hlen := hk2.len
  simp only at hlen
  have ECK : Hid (∀ j m, j ≤ ks.length → m ≤ 3000 → True) := fun _ _ _ _ => trivial
  clear nc2 ok2 hq2 hk2 ECK
  have HN0 := HN
  clear HN
  by_cases h8 : k = 8
  · subst h8
    have hi := HF.out rfl rfl
    clear HF
    rw [if_pos rfl] at HR
    go_wp2_with fail
    go_loopw [64] (fun ix wr => ∃ j m : Nat, j ≤ ks.length ∧ m ≤ 3000 ∧ ix = .int .i64 j ∧ Keep cb w wr ∧ Ctr cb m wr ∧ ckL (ckC F (ar + i)) ks (n + 1) = ckL (ckC F (ar + i)) (ks.drop j) m) (fun ix _ => ks.length - (intOf ix).toNat)
    case atStart => exact ⟨0, n + 1, Nat.zero_le _, by omega, rfl, HK2.out, HC2.out, rfl⟩
    case round =>
      clear c0 c1 c11
      obtain ⟨j, m, hj, hm, rfl, hkr, hcr, he⟩ := hrel
      have HEQ := hidd he
      have HKr : Hid (Keep cb w wr ∧ Ctr cb m wr) := ⟨hkr, hcr⟩
      have CNr := hidd (HN0.out.below (hkr.toBelow hB hBw))
      clear he hkr hcr
      by_cases hlt : j < ks.length
      · obtain ⟨kid, hkid⟩ : ∃ kid, ks[j]? = some kid := ⟨ks[j], List.getElem?_eq_getElem hlt⟩
        have hne : ks ≠ [] := by intro e; rw [e] at hlt; simp at hlt
        obtain ⟨_, qar, qcr, kar, kcr, ncr, okr, hqr, hkr⟩ := CNr.out
        obtain ⟨g', b', o', hg, ha, hall⟩ := hkr.at hne
        subst ha
        have cr11 := ncr.c11
        simp only at cr11
        have hkc : ks.length ≤ kcr := okr.2.2.2.2
        have HKid := hidd (hall j kid hkid)
        have HK := hidd hkid
        clear hkid hall hkr hqr ncr okr hne
        go_wp2_with fail
        refine (IH.out g' b' (o' + j * 12) kid (ar + i) m wr (by omega) (by omega) HKid.out hm HKr.out.2).mono ?_
        rintro e w3 ⟨rfl, hk3, hc3⟩
        have HK3 : Hid (Keep cb w w3) := HKr.out.1.trans hk3
        have HC3 := hidd hc3
        have HM : Hid ((ckC F (ar + i) kid m).1 = 0 → (ckC F (ar + i) kid m).2 ≤ 3000) := ckC_le F _ kid m hm
        have H1 : Hid ((ckC F (ar + i) kid m).1 = 0 → ckL (ckC F (ar + i)) ks (n + 1) = ckL (ckC F (ar + i)) (ks.drop (j + 1)) (ckC F (ar + i) kid m).2) := fun h => HEQ.out.trans (ckL_drop _ _ _ _ _ HK.out h)
        have H2 : Hid ((ckC F (ar + i) kid m).1 ≠ 0 → ckL (ckC F (ar + i)) ks (n + 1) = ckC F (ar + i) kid m) := fun h => HEQ.out.trans (ckL_bad _ _ _ _ _ HK.out h)
        clear hk3 hc3 HK HKid HKr IH HEQ CNr cr11 HN0 CN2 HK2 HC2
        generalize ckC F (ar + i) kid m = yy at HC3 HM H1 H2 ⊢
        obtain ⟨y1, y2⟩ := yy
        simp only at HC3 HM H1 H2 ⊢
        by_cases y0 : y1 = 0
        · subst y0
          go_wp2_with fail
          go_roundw
          case rel => exact ⟨j + 1, y2, by omega, HM.out rfl, by go_num, HK3.out, HC3.out, H1.out rfl⟩
          case measure => simp [intOf]; omega
        · have y0' : (y1 != 0) = true := by simpa using y0
          go_wp2_with fail
          go_ret
          refine ⟨?_, HK3.out, ?_⟩
          · rw [HR.out, H2.out y0]; rfl
          · rw [HR.out, H2.out y0]; exact HC3.out
      · obtain rfl : j = ks.length := by omega
        rw [List.drop_length] at HEQ
        clear IH CNr HN0 CN2
        go_wp2_with fail
        go_ret
        refine ⟨?_, HKr.out.1, ?_⟩
        · rw [HR.out, HEQ.out]; rfl
        · rw [HR.out, HEQ.out]; exact HKr.out.2
  · have h8' : (k == 8) = false := by simpa using h8
    rw [if_neg h8] at HR
    clear HF h8
    go_wp2_with fail
    go_loopw [64] (fun ix wr => ∃ j m : Nat, j ≤ ks.length ∧ m ≤ 3000 ∧ ix = .int .i64 j ∧ Keep cb w wr ∧ Ctr cb m wr ∧ ckL (ckC F (ar)) ks (n + 1) = ckL (ckC F (ar)) (ks.drop j) m) (fun ix _ => ks.length - (intOf ix).toNat)
    case atStart => exact ⟨0, n + 1, Nat.zero_le _, by omega, rfl, HK2.out, HC2.out, rfl⟩
    case round =>
      clear c0 c1 c11
      obtain ⟨j, m, hj, hm, rfl, hkr, hcr, he⟩ := hrel
      have HEQ := hidd he
      have HKr : Hid (Keep cb w wr ∧ Ctr cb m wr) := ⟨hkr, hcr⟩
      have CNr := hidd (HN0.out.below (hkr.toBelow hB hBw))
      clear he hkr hcr
      by_cases hlt : j < ks.length
      · obtain ⟨kid, hkid⟩ : ∃ kid, ks[j]? = some kid := ⟨ks[j], List.getElem?_eq_getElem hlt⟩
        have hne : ks ≠ [] := by intro e; rw [e] at hlt; simp at hlt
        obtain ⟨_, qar, qcr, kar, kcr, ncr, okr, hqr, hkr⟩ := CNr.out
        obtain ⟨g', b', o', hg, ha, hall⟩ := hkr.at hne
        subst ha
        have cr11 := ncr.c11
        simp only at cr11
        have hkc : ks.length ≤ kcr := okr.2.2.2.2
        have HKid := hidd (hall j kid hkid)
        have HK := hidd hkid
        clear hkid hall hkr hqr ncr okr hne
        go_wp2_with fail
        refine (IH.out g' b' (o' + j * 12) kid (ar) m wr (by omega) (by omega) HKid.out hm HKr.out.2).mono ?_
        rintro e w3 ⟨rfl, hk3, hc3⟩
        have HK3 : Hid (Keep cb w w3) := HKr.out.1.trans hk3
        have HC3 := hidd hc3
        have HM : Hid ((ckC F (ar) kid m).1 = 0 → (ckC F (ar) kid m).2 ≤ 3000) := ckC_le F _ kid m hm
        have H1 : Hid ((ckC F (ar) kid m).1 = 0 → ckL (ckC F (ar)) ks (n + 1) = ckL (ckC F (ar)) (ks.drop (j + 1)) (ckC F (ar) kid m).2) := fun h => HEQ.out.trans (ckL_drop _ _ _ _ _ HK.out h)
        have H2 : Hid ((ckC F (ar) kid m).1 ≠ 0 → ckL (ckC F (ar)) ks (n + 1) = ckC F (ar) kid m) := fun h => HEQ.out.trans (ckL_bad _ _ _ _ _ HK.out h)
        clear hk3 hc3 HK HKid HKr IH HEQ CNr cr11 HN0 CN2 HK2 HC2
        generalize ckC F (ar) kid m = yy at HC3 HM H1 H2 ⊢
        obtain ⟨y1, y2⟩ := yy
        simp only at HC3 HM H1 H2 ⊢
        by_cases y0 : y1 = 0
        · subst y0
          go_wp2_with fail
          go_roundw
          case rel => exact ⟨j + 1, y2, by omega, HM.out rfl, by go_num, HK3.out, HC3.out, H1.out rfl⟩
          case measure => simp [intOf]; omega
        · have y0' : (y1 != 0) = true := by simpa using y0
          go_wp2_with fail
          go_ret
          refine ⟨?_, HK3.out, ?_⟩
          · rw [HR.out, H2.out y0]; rfl
          · rw [HR.out, H2.out y0]; exact HC3.out
      · obtain rfl : j = ks.length := by omega
        rw [List.drop_length] at HEQ
        clear IH CNr HN0 CN2
        go_wp2_with fail
        go_ret
        refine ⟨?_, HKr.out.1, ?_⟩
        · rw [HR.out, HEQ.out]; rfl
        · rw [HR.out, HEQ.out]; exact HKr.out.2
end
end Go.Proofs.YtdnbingddbakaaaGreatDoor
