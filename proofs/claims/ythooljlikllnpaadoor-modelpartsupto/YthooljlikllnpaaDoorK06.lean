/- Cores in memory; what package model finds wrong with a node. -/
import Derived.Test.YthooljlikllnpaaDoorK05
import Derived.Test.YthooljlikllnpaaDoorK01
import Derived.RangeFuncRecord
import Derived.Deep.RegionHeld3
import Derived.Deep.AppendLies
import Derived.Deep.CutRange
import Derived.Deep.RegionLaw
import Derived.Deep.RegionHeldLaw
import Derived.Deep.Upon
import Derived.OrdersHeld
namespace Go.Proofs.YthooljlikllnpaaDoor
set_option linter.unusedVariables false
set_option linter.unusedSimpArgs false
open Go.RowKit

/-- Data ds lie behind a, in blocks that are such. -/
def Dc (ok : Nat → Prop) (w : World) : Nat → Option Addr → List Dat → Prop
  | 0, _, ds => ds = []
  | f + 1, a, ds => ds.length ≤ 9223372036854775807 ∧ (ds = [] ∨ ∃ b o, a = some ⟨b, o, none⟩ ∧ ok b ∧ ∀ (i : Nat) (d : Dat), ds[i]? = some d → ∃ a' cap,
      w.cell? ⟨b, o + i * 6, none⟩ = some (.int .i64 d.kind) ∧ w.cell? ⟨b, o + i * 6 + 1, none⟩ = some (.int .i64 d.n) ∧ w.cell? ⟨b, o + i * 6 + 2, none⟩ = some (.string d.name) ∧
      w.cell? ⟨b, o + i * 6 + 3, none⟩ = some (.int .i64 d.stamp) ∧ w.cell? ⟨b, o + i * 6 + 4, none⟩ = some (.int .i64 d.lib) ∧ w.cell? ⟨b, o + i * 6 + 5, none⟩ = some (.slice a' d.kids.length cap) ∧
      d.name.size ≤ maxLen ∧ d.kids.length ≤ cap ∧ Dc ok w f a' d.kids)

theorem Dc.stay {ok ok' : Nat → Prop} {w w' : World} (hw : ∀ k, ok k → w'.heap[k]? = w.heap[k]?) (ho : ∀ k, ok k → ok' k) : ∀ (f : Nat) (a : Option Addr) (ds : List Dat), Dc ok w f a ds → Dc ok' w' f a ds
  | 0, _, _, h => h
  | f + 1, a, ds, h => by
    obtain ⟨hl, h⟩ := h
    refine ⟨hl, ?_⟩
    rcases h with h | ⟨b, o, ha, hb, h⟩
    · exact Or.inl h
    · refine Or.inr ⟨b, o, ha, ho b hb, fun i d hd => ?_⟩
      obtain ⟨a', cap, c0, c1, c2, c3, c4, c5, hn, hc, hk⟩ := h i d hd
      have e : ∀ q, w'.cell? ⟨b, q, none⟩ = w.cell? ⟨b, q, none⟩ := fun q => World.cell?_of_block (hw b hb)
      exact ⟨a', cap, (e _).trans c0, (e _).trans c1, (e _).trans c2, (e _).trans c3, (e _).trans c4, (e _).trans c5, hn, hc, Dc.stay hw ho f a' _ hk⟩

theorem Dc.nil (ok : Nat → Prop) (w : World) (f : Nat) (a : Option Addr) : Dc ok w f a [] := by
  cases f with
  | zero => rfl
  | succ f => exact ⟨Nat.zero_le _, Or.inl rfl⟩

theorem Dc.more {ok : Nat → Prop} {w : World} : ∀ (f : Nat) (a : Option Addr) (ds : List Dat), Dc ok w f a ds → Dc ok w (f + 1) a ds
  | 0, a, ds, h => by
    rw [show ds = [] from h]
    exact Dc.nil _ _ _ _
  | f + 1, a, ds, h => by
    obtain ⟨hl, h⟩ := h
    refine ⟨hl, ?_⟩
    rcases h with h | ⟨b, o, ha, hb, h⟩
    · exact Or.inl h
    · refine Or.inr ⟨b, o, ha, hb, fun i d hd => ?_⟩
      obtain ⟨a', cap, c0, c1, c2, c3, c4, c5, hn, hc, hk⟩ := h i d hd
      exact ⟨a', cap, c0, c1, c2, c3, c4, c5, hn, hc, Dc.more f a' _ hk⟩

theorem Dc.upto {ok : Nat → Prop} {w : World} {f : Nat} {a : Option Addr} {ds : List Dat} (h : Dc ok w f a ds) : ∀ (k : Nat), Dc ok w (f + k) a ds
  | 0 => h
  | k + 1 => Dc.more _ _ _ (h.upto k)

theorem Dc.lies {ok : Nat → Prop} {B : Nat} {w : World} (ho : ∀ k, ok k → k < B) : ∀ (f : Nat) (a : Option Addr) (ds : List Dat), Dc ok w f a ds → Lies B w f a ds
  | 0, _, _, h => h
  | f + 1, a, ds, h => by
    obtain ⟨hl, h⟩ := h
    refine ⟨hl, ?_⟩
    rcases h with h | ⟨b, o, ha, hb, h⟩
    · exact Or.inl h
    · refine Or.inr ⟨b, o, ha, ho b hb, fun i d hd => ?_⟩
      obtain ⟨a', cap, c0, c1, c2, c3, c4, c5, hn, hc, hk⟩ := h i d hd
      exact ⟨a', cap, c0, c1, c2, c3, c4, c5, hn, Dc.lies ho f a' _ hk⟩

theorem hidd {p : Prop} (h : p) : Hid p := h
theorem ba_eq {a b : ByteArray} (h : a.data.toList = b.data.toList) : a = b := by
  cases a; cases b; simpa using h
theorem beqS_true {a b : ByteArray} (h : (a.toList == b.toList) = true) : a = b := by
  rw [ByteArray.toList_eq, ByteArray.toList_eq] at h
  exact ba_eq (by simpa using h)
theorem beqS_ne {a b : ByteArray} (h : ¬ a = b) : (a.toList == b.toList) = false := by
  cases e : (a.toList == b.toList) with
  | false => rfl
  | true => exact absurd (beqS_true e) h

/-- A node's twelve cells. -/
structure Nc (w : World) (b o : Nat) (c : Cor) (qa : Option Addr) (qc : Nat) (ka : Option Addr) (kc : Nat) : Prop where
  c0 : w.cell? ⟨b, o, none⟩ = some (.int .i64 c.kind)
  c1 : w.cell? ⟨b, o + 1, none⟩ = some (.int .i64 c.index)
  c2 : w.cell? ⟨b, o + 2, none⟩ = some (.int .i64 c.n)
  c3 : w.cell? ⟨b, o + 3, none⟩ = some (.string c.lib)
  c4 : w.cell? ⟨b, o + 4, none⟩ = some (.string c.own)
  c5 : w.cell? ⟨b, o + 5, none⟩ = some (.int .i64 c.quote.kind)
  c6 : w.cell? ⟨b, o + 6, none⟩ = some (.int .i64 c.quote.n)
  c7 : w.cell? ⟨b, o + 7, none⟩ = some (.string c.quote.name)
  c8 : w.cell? ⟨b, o + 8, none⟩ = some (.int .i64 c.quote.stamp)
  c9 : w.cell? ⟨b, o + 9, none⟩ = some (.int .i64 c.quote.lib)
  c10 : w.cell? ⟨b, o + 10, none⟩ = some (.slice qa c.quote.kids.length qc)
  c11 : w.cell? ⟨b, o + 11, none⟩ = some (.slice ka c.kids.length kc)
theorem Nc.stay {w w' : World} {b o : Nat} {c : Cor} {qa : Option Addr} {qc : Nat} {ka : Option Addr} {kc : Nat} (h : Nc w b o c qa qc ka kc) (hw : w'.heap[b]? = w.heap[b]?) : Nc w' b o c qa qc ka kc := by
  have e : ∀ q, w'.cell? ⟨b, q, none⟩ = w.cell? ⟨b, q, none⟩ := fun q => World.cell?_of_block hw
  exact ⟨(e _).trans h.c0, (e _).trans h.c1, (e _).trans h.c2, (e _).trans h.c3, (e _).trans h.c4, (e _).trans h.c5, (e _).trans h.c6, (e _).trans h.c7, (e _).trans h.c8, (e _).trans h.c9, (e _).trans h.c10, (e _).trans h.c11⟩
/-- What a node in memory has beside its cells. -/
def NcOk (c : Cor) (qc kc : Nat) : Prop := c.lib.size ≤ maxLen ∧ c.own.size ≤ maxLen ∧ c.quote.name.size ≤ maxLen ∧ c.quote.kids.length ≤ qc ∧ c.kids.length ≤ kc
/-- Expressions lie behind a, in blocks below B. -/
def Cc (B : Nat) (w : World) : Nat → Option Addr → List Cor → Prop
  | 0, _, cs => cs = []
  | f + 1, a, cs => cs.length ≤ 9223372036854775807 ∧ (cs = [] ∨ ∃ b o, a = some ⟨b, o, none⟩ ∧ b < B ∧ ∀ (i : Nat) (c : Cor), cs[i]? = some c → ∃ qa qc ka kc,
      Nc w b (o + i * 12) c qa qc ka kc ∧ NcOk c qc kc ∧ Dc (fun k => k < B) w f qa c.quote.kids ∧ Cc B w f ka c.kids)
/-- An expression lies at a place. -/
def Cn (B : Nat) (w : World) (f b o : Nat) (c : Cor) : Prop := b < B ∧ ∃ qa qc ka kc, Nc w b o c qa qc ka kc ∧ NcOk c qc kc ∧ Dc (fun k => k < B) w f qa c.quote.kids ∧ Cc B w f ka c.kids
theorem Cc.stay {B : Nat} {w w' : World} (hw : ∀ k, k < B → w'.heap[k]? = w.heap[k]?) : ∀ (f : Nat) (a : Option Addr) (cs : List Cor), Cc B w f a cs → Cc B w' f a cs
  | 0, _, _, h => h
  | f + 1, a, cs, h => by
    obtain ⟨hl, h⟩ := h
    refine ⟨hl, ?_⟩
    rcases h with h | ⟨b, o, ha, hb, h⟩
    · exact Or.inl h
    · refine Or.inr ⟨b, o, ha, hb, fun i c hc => ?_⟩
      obtain ⟨qa, qc, ka, kc, h1, h2, h3, h4⟩ := h i c hc
      exact ⟨qa, qc, ka, kc, h1.stay (hw b hb), h2, Dc.stay (fun k hk => hw k hk) (fun _ hk => hk) _ _ _ h3, Cc.stay hw f ka _ h4⟩
theorem Cn.stay {B : Nat} {w w' : World} {f b o : Nat} {c : Cor} (h : Cn B w f b o c) (hw : ∀ k, k < B → w'.heap[k]? = w.heap[k]?) : Cn B w' f b o c := by
  obtain ⟨hb, qa, qc, ka, kc, h1, h2, h3, h4⟩ := h
  exact ⟨hb, qa, qc, ka, kc, h1.stay (hw b hb), h2, Dc.stay (fun k hk => hw k hk) (fun _ hk => hk) _ _ _ h3, Cc.stay hw f ka _ h4⟩
theorem Cc.below {B : Nat} {w w' : World} {f : Nat} {a : Option Addr} {cs : List Cor} (h : Cc B w f a cs) (hb : Below B w w') : Cc B w' f a cs := Cc.stay (fun k hk => hb.block k hk) f a cs h
theorem Cn.below {B : Nat} {w w' : World} {f b o : Nat} {c : Cor} (h : Cn B w f b o c) (hb : Below B w w') : Cn B w' f b o c := h.stay (fun k hk => hb.block k hk)
theorem Cc.len {B : Nat} {w : World} {f : Nat} {a : Option Addr} {cs : List Cor} (h : Cc B w f a cs) : cs.length ≤ 9223372036854775807 := by
  cases f with
  | zero => rw [show cs = [] from h]; exact Nat.zero_le _
  | succ f => exact h.1
theorem Cc.at {B : Nat} {w : World} {f : Nat} {a : Option Addr} {cs : List Cor} (h : Cc B w f a cs) (h0 : cs ≠ []) : ∃ g b o, f = g + 1 ∧ a = some ⟨b, o, none⟩ ∧ ∀ (i : Nat) (c : Cor), cs[i]? = some c → Cn B w g b (o + i * 12) c := by
  cases f with
  | zero => exact absurd h h0
  | succ f =>
    rcases h.2 with h | ⟨b, o, ha, hb, h⟩
    · exact absurd h h0
    · exact ⟨f, b, o, rfl, ha, fun i c hc => ⟨hb, h i c hc⟩⟩

set_option maxRecDepth 100000 in
set_option maxHeartbeats 1600000 in
theorem argsOf_any (o : ByteArray) (w : World) : Calls Tryd.prog 64 #[.string o] w fun e w' => e = .returned (.int .i64 (argsB o)) ∧ w' = w := by
  unfold argsB primTab
  simp only [argsTab]
  by_cases h0 : o = ⟨#[99, 97, 114]⟩
  · have e0 : (o.toList == [99, 97, 114]) = true := by rw [h0]; decide +kernel
    rw [if_pos h0]
    clear h0
    go_enter Tryd.func64, Tryd.ntmps64
    go_wp2_with fail
    go_ret
    exact ⟨rfl, rfl⟩
  have e0 : (o.toList == [99, 97, 114]) = false := by have h := beqS_ne h0; simpa [ByteArray.toList_eq] using h
  rw [if_neg h0]
  clear h0
  by_cases h1 : o = ⟨#[99, 100, 114]⟩
  · have e1 : (o.toList == [99, 100, 114]) = true := by rw [h1]; decide +kernel
    rw [if_pos h1]
    clear h1
    go_enter Tryd.func64, Tryd.ntmps64
    go_wp2_with fail
    go_ret
    exact ⟨rfl, rfl⟩
  have e1 : (o.toList == [99, 100, 114]) = false := by have h := beqS_ne h1; simpa [ByteArray.toList_eq] using h
  rw [if_neg h1]
  clear h1
  by_cases h2 : o = ⟨#[110, 111, 116]⟩
  · have e2 : (o.toList == [110, 111, 116]) = true := by rw [h2]; decide +kernel
    rw [if_pos h2]
    clear h2
    go_enter Tryd.func64, Tryd.ntmps64
    go_wp2_with fail
    go_ret
    exact ⟨rfl, rfl⟩
  have e2 : (o.toList == [110, 111, 116]) = false := by have h := beqS_ne h2; simpa [ByteArray.toList_eq] using h
  rw [if_neg h2]
  clear h2
  by_cases h3 : o = ⟨#[110, 117, 108, 108, 63]⟩
  · have e3 : (o.toList == [110, 117, 108, 108, 63]) = true := by rw [h3]; decide +kernel
    rw [if_pos h3]
    clear h3
    go_enter Tryd.func64, Tryd.ntmps64
    go_wp2_with fail
    go_ret
    exact ⟨rfl, rfl⟩
  have e3 : (o.toList == [110, 117, 108, 108, 63]) = false := by have h := beqS_ne h3; simpa [ByteArray.toList_eq] using h
  rw [if_neg h3]
  clear h3
  by_cases h4 : o = ⟨#[111, 117, 116]⟩
  · have e4 : (o.toList == [111, 117, 116]) = true := by rw [h4]; decide +kernel
    rw [if_pos h4]
    clear h4
    go_enter Tryd.func64, Tryd.ntmps64
    go_wp2_with fail
    go_ret
    exact ⟨rfl, rfl⟩
  have e4 : (o.toList == [111, 117, 116]) = false := by have h := beqS_ne h4; simpa [ByteArray.toList_eq] using h
  rw [if_neg h4]
  clear h4
  by_cases h5 : o = ⟨#[112, 97, 105, 114, 63]⟩
  · have e5 : (o.toList == [112, 97, 105, 114, 63]) = true := by rw [h5]; decide +kernel
    rw [if_pos h5]
    clear h5
    go_enter Tryd.func64, Tryd.ntmps64
    go_wp2_with fail
    go_ret
    exact ⟨rfl, rfl⟩
  have e5 : (o.toList == [112, 97, 105, 114, 63]) = false := by have h := beqS_ne h5; simpa [ByteArray.toList_eq] using h
  rw [if_neg h5]
  clear h5
  by_cases h6 : o = ⟨#[42]⟩
  · have e6 : (o.toList == [42]) = true := by rw [h6]; decide +kernel
    rw [if_pos h6]
    clear h6
    go_enter Tryd.func64, Tryd.ntmps64
    go_wp2_with fail
    go_ret
    exact ⟨rfl, rfl⟩
  have e6 : (o.toList == [42]) = false := by have h := beqS_ne h6; simpa [ByteArray.toList_eq] using h
  rw [if_neg h6]
  clear h6
  by_cases h7 : o = ⟨#[43]⟩
  · have e7 : (o.toList == [43]) = true := by rw [h7]; decide +kernel
    rw [if_pos h7]
    clear h7
    go_enter Tryd.func64, Tryd.ntmps64
    go_wp2_with fail
    go_ret
    exact ⟨rfl, rfl⟩
  have e7 : (o.toList == [43]) = false := by have h := beqS_ne h7; simpa [ByteArray.toList_eq] using h
  rw [if_neg h7]
  clear h7
  by_cases h8 : o = ⟨#[45]⟩
  · have e8 : (o.toList == [45]) = true := by rw [h8]; decide +kernel
    rw [if_pos h8]
    clear h8
    go_enter Tryd.func64, Tryd.ntmps64
    go_wp2_with fail
    go_ret
    exact ⟨rfl, rfl⟩
  have e8 : (o.toList == [45]) = false := by have h := beqS_ne h8; simpa [ByteArray.toList_eq] using h
  rw [if_neg h8]
  clear h8
  by_cases h9 : o = ⟨#[60]⟩
  · have e9 : (o.toList == [60]) = true := by rw [h9]; decide +kernel
    rw [if_pos h9]
    clear h9
    go_enter Tryd.func64, Tryd.ntmps64
    go_wp2_with fail
    go_ret
    exact ⟨rfl, rfl⟩
  have e9 : (o.toList == [60]) = false := by have h := beqS_ne h9; simpa [ByteArray.toList_eq] using h
  rw [if_neg h9]
  clear h9
  by_cases h10 : o = ⟨#[61]⟩
  · have e10 : (o.toList == [61]) = true := by rw [h10]; decide +kernel
    rw [if_pos h10]
    clear h10
    go_enter Tryd.func64, Tryd.ntmps64
    go_wp2_with fail
    go_ret
    exact ⟨rfl, rfl⟩
  have e10 : (o.toList == [61]) = false := by have h := beqS_ne h10; simpa [ByteArray.toList_eq] using h
  rw [if_neg h10]
  clear h10
  by_cases h11 : o = ⟨#[99, 111, 110, 115]⟩
  · have e11 : (o.toList == [99, 111, 110, 115]) = true := by rw [h11]; decide +kernel
    rw [if_pos h11]
    clear h11
    go_enter Tryd.func64, Tryd.ntmps64
    go_wp2_with fail
    go_ret
    exact ⟨rfl, rfl⟩
  have e11 : (o.toList == [99, 111, 110, 115]) = false := by have h := beqS_ne h11; simpa [ByteArray.toList_eq] using h
  rw [if_neg h11]
  clear h11
  by_cases h12 : o = ⟨#[101, 113, 63]⟩
  · have e12 : (o.toList == [101, 113, 63]) = true := by rw [h12]; decide +kernel
    rw [if_pos h12]
    clear h12
    go_enter Tryd.func64, Tryd.ntmps64
    go_wp2_with fail
    go_ret
    exact ⟨rfl, rfl⟩
  have e12 : (o.toList == [101, 113, 63]) = false := by have h := beqS_ne h12; simpa [ByteArray.toList_eq] using h
  rw [if_neg h12]
  clear h12
  go_enter Tryd.func64, Tryd.ntmps64
  go_wp2_with fail
  go_ret
  exact ⟨rfl, rfl⟩

set_option maxRecDepth 100000 in
set_option maxHeartbeats 1600000 in
theorem mRange_any (n : Int) (w : World) : Calls Tryd.prog 63 #[.int .i64 n] w fun e w' => e = .returned (.bool (decide (-1000000000000000 ≤ n ∧ n ≤ 1000000000000000))) ∧ w' = w := by
  by_cases h0 : -1000000000000000 ≤ n
  · by_cases h1 : n ≤ 1000000000000000
    · go_enter Tryd.func63, Tryd.ntmps63
      go_wp2_with fail
      go_ret
      simp [h0, h1]
    · go_enter Tryd.func63, Tryd.ntmps63
      go_wp2_with fail
      go_ret
      simp [h0, h1]
  · go_enter Tryd.func63, Tryd.ntmps63
    go_wp2_with fail
    go_ret
    simp
    intro h
    omega

set_option maxRecDepth 100000 in
set_option maxHeartbeats 3200000 in
theorem wrongKids_any (k : Int) (n : Nat) (hn : n ≤ 9223372036854775807) (w : World) : Calls Tryd.prog 50 #[.int .i64 k, .int .i64 n] w fun e w' => e = .returned (.int .i64 (wkids k n)) ∧ w' = w := by
  by_cases k1 : k = 1
  · subst k1
    by_cases hc : n = 0
    · rw [show wkids 1 n = 0 by simp [wkids, hc]]
      have hd : ((n : Int) == 0) = true := by simp; omega
      clear hc hn
      go_enter Tryd.func50, Tryd.ntmps50
      go_wp2_with fail
      go_ret
      exact ⟨rfl, rfl⟩
    · rw [show wkids 1 n = 5 by simp [wkids, hc]]
      have hd : ((n : Int) == 0) = false := by simp; omega
      clear hc hn
      go_enter Tryd.func50, Tryd.ntmps50
      go_wp2_with fail
      go_ret
      exact ⟨rfl, rfl⟩
  by_cases k2 : k = 2
  · subst k2
    by_cases hc : n = 0
    · rw [show wkids 2 n = 0 by simp [wkids, hc]]
      have hd : ((n : Int) == 0) = true := by simp; omega
      clear hc hn
      go_enter Tryd.func50, Tryd.ntmps50
      go_wp2_with fail
      go_ret
      exact ⟨rfl, rfl⟩
    · rw [show wkids 2 n = 5 by simp [wkids, hc]]
      have hd : ((n : Int) == 0) = false := by simp; omega
      clear hc hn
      go_enter Tryd.func50, Tryd.ntmps50
      go_wp2_with fail
      go_ret
      exact ⟨rfl, rfl⟩
  by_cases k3 : k = 3
  · subst k3
    by_cases hc : n = 0
    · rw [show wkids 3 n = 0 by simp [wkids, hc]]
      have hd : ((n : Int) == 0) = true := by simp; omega
      clear hc hn
      go_enter Tryd.func50, Tryd.ntmps50
      go_wp2_with fail
      go_ret
      exact ⟨rfl, rfl⟩
    · rw [show wkids 3 n = 5 by simp [wkids, hc]]
      have hd : ((n : Int) == 0) = false := by simp; omega
      clear hc hn
      go_enter Tryd.func50, Tryd.ntmps50
      go_wp2_with fail
      go_ret
      exact ⟨rfl, rfl⟩
  by_cases k4 : k = 4
  · subst k4
    by_cases hc : n = 0
    · rw [show wkids 4 n = 0 by simp [wkids, hc]]
      have hd : ((n : Int) == 0) = true := by simp; omega
      clear hc hn
      go_enter Tryd.func50, Tryd.ntmps50
      go_wp2_with fail
      go_ret
      exact ⟨rfl, rfl⟩
    · rw [show wkids 4 n = 5 by simp [wkids, hc]]
      have hd : ((n : Int) == 0) = false := by simp; omega
      clear hc hn
      go_enter Tryd.func50, Tryd.ntmps50
      go_wp2_with fail
      go_ret
      exact ⟨rfl, rfl⟩
  by_cases k5 : k = 5
  · subst k5
    by_cases hc : n = 0
    · rw [show wkids 5 n = 0 by simp [wkids, hc]]
      have hd : ((n : Int) == 0) = true := by simp; omega
      clear hc hn
      go_enter Tryd.func50, Tryd.ntmps50
      go_wp2_with fail
      go_ret
      exact ⟨rfl, rfl⟩
    · rw [show wkids 5 n = 5 by simp [wkids, hc]]
      have hd : ((n : Int) == 0) = false := by simp; omega
      clear hc hn
      go_enter Tryd.func50, Tryd.ntmps50
      go_wp2_with fail
      go_ret
      exact ⟨rfl, rfl⟩
  by_cases k6 : k = 6
  · subst k6
    by_cases hc : n = 0
    · rw [show wkids 6 n = 0 by simp [wkids, hc]]
      have hd : ((n : Int) == 0) = true := by simp; omega
      clear hc hn
      go_enter Tryd.func50, Tryd.ntmps50
      go_wp2_with fail
      go_ret
      exact ⟨rfl, rfl⟩
    · rw [show wkids 6 n = 5 by simp [wkids, hc]]
      have hd : ((n : Int) == 0) = false := by simp; omega
      clear hc hn
      go_enter Tryd.func50, Tryd.ntmps50
      go_wp2_with fail
      go_ret
      exact ⟨rfl, rfl⟩
  by_cases k8 : k = 8
  · subst k8
    by_cases hc : n = 1
    · rw [show wkids 8 n = 0 by simp [wkids, hc]]
      have hd : ((n : Int) == 1) = true := by simp; omega
      clear hc hn
      go_enter Tryd.func50, Tryd.ntmps50
      go_wp2_with fail
      go_ret
      exact ⟨rfl, rfl⟩
    · rw [show wkids 8 n = 5 by simp [wkids, hc]]
      have hd : ((n : Int) == 1) = false := by simp; omega
      clear hc hn
      go_enter Tryd.func50, Tryd.ntmps50
      go_wp2_with fail
      go_ret
      exact ⟨rfl, rfl⟩
  by_cases k10 : k = 10
  · subst k10
    by_cases hc : n = 1
    · rw [show wkids 10 n = 0 by simp [wkids, hc]]
      have hd : ((n : Int) == 1) = true := by simp; omega
      clear hc hn
      go_enter Tryd.func50, Tryd.ntmps50
      go_wp2_with fail
      go_ret
      exact ⟨rfl, rfl⟩
    · rw [show wkids 10 n = 5 by simp [wkids, hc]]
      have hd : ((n : Int) == 1) = false := by simp; omega
      clear hc hn
      go_enter Tryd.func50, Tryd.ntmps50
      go_wp2_with fail
      go_ret
      exact ⟨rfl, rfl⟩
  by_cases k11 : k = 11
  · subst k11
    by_cases hc : n = 1
    · rw [show wkids 11 n = 0 by simp [wkids, hc]]
      have hd : ((n : Int) == 1) = true := by simp; omega
      clear hc hn
      go_enter Tryd.func50, Tryd.ntmps50
      go_wp2_with fail
      go_ret
      exact ⟨rfl, rfl⟩
    · rw [show wkids 11 n = 5 by simp [wkids, hc]]
      have hd : ((n : Int) == 1) = false := by simp; omega
      clear hc hn
      go_enter Tryd.func50, Tryd.ntmps50
      go_wp2_with fail
      go_ret
      exact ⟨rfl, rfl⟩
  by_cases k13 : k = 13
  · subst k13
    by_cases hc : n = 1
    · rw [show wkids 13 n = 0 by simp [wkids, hc]]
      have hd : ((n : Int) == 1) = true := by simp; omega
      clear hc hn
      go_enter Tryd.func50, Tryd.ntmps50
      go_wp2_with fail
      go_ret
      exact ⟨rfl, rfl⟩
    · rw [show wkids 13 n = 5 by simp [wkids, hc]]
      have hd : ((n : Int) == 1) = false := by simp; omega
      clear hc hn
      go_enter Tryd.func50, Tryd.ntmps50
      go_wp2_with fail
      go_ret
      exact ⟨rfl, rfl⟩
  by_cases k7 : k = 7
  · subst k7
    by_cases hc : n = 3
    · rw [show wkids 7 n = 0 by simp [wkids, hc]]
      have hd : ((n : Int) == 3) = true := by simp; omega
      clear hc hn
      go_enter Tryd.func50, Tryd.ntmps50
      go_wp2_with fail
      go_ret
      exact ⟨rfl, rfl⟩
    · rw [show wkids 7 n = 5 by simp [wkids, hc]]
      have hd : ((n : Int) == 3) = false := by simp; omega
      clear hc hn
      go_enter Tryd.func50, Tryd.ntmps50
      go_wp2_with fail
      go_ret
      exact ⟨rfl, rfl⟩
  by_cases k9 : k = 9
  · subst k9
    by_cases hc : 1 ≤ n
    · rw [show wkids 9 n = 0 by simp [wkids, hc]]
      have hd : (1 : Int) ≤ n := by omega
      clear hc hn
      go_enter Tryd.func50, Tryd.ntmps50
      go_wp2_with fail
      go_ret
      exact ⟨rfl, rfl⟩
    · rw [show wkids 9 n = 5 by simp [wkids, hc]]
      have hd : ¬ (1 : Int) ≤ n := by omega
      clear hc hn
      go_enter Tryd.func50, Tryd.ntmps50
      go_wp2_with fail
      go_ret
      exact ⟨rfl, rfl⟩
  by_cases k12 : k = 12
  · subst k12
    by_cases hc : 1 ≤ n
    · rw [show wkids 12 n = 0 by simp [wkids, hc]]
      have hd : (1 : Int) ≤ n := by omega
      clear hc hn
      go_enter Tryd.func50, Tryd.ntmps50
      go_wp2_with fail
      go_ret
      exact ⟨rfl, rfl⟩
    · rw [show wkids 12 n = 5 by simp [wkids, hc]]
      have hd : ¬ (1 : Int) ≤ n := by omega
      clear hc hn
      go_enter Tryd.func50, Tryd.ntmps50
      go_wp2_with fail
      go_ret
      exact ⟨rfl, rfl⟩
  rw [show wkids k n = 1 by simp [wkids, k1, k2, k3, k4, k5, k6, k8, k10, k11, k13, k7, k9, k12]]
  have j1 : (k == 1) = false := by simpa using k1
  have j2 : (k == 2) = false := by simpa using k2
  have j3 : (k == 3) = false := by simpa using k3
  have j4 : (k == 4) = false := by simpa using k4
  have j5 : (k == 5) = false := by simpa using k5
  have j6 : (k == 6) = false := by simpa using k6
  have j8 : (k == 8) = false := by simpa using k8
  have j10 : (k == 10) = false := by simpa using k10
  have j11 : (k == 11) = false := by simpa using k11
  have j13 : (k == 13) = false := by simpa using k13
  have j7 : (k == 7) = false := by simpa using k7
  have j9 : (k == 9) = false := by simpa using k9
  have j12 : (k == 12) = false := by simpa using k12
  clear k1 k2 k3 k4 k5 k6 k8 k10 k11 k13 k7 k9 k12 hn
  go_enter Tryd.func50, Tryd.ntmps50
  go_wp2_with fail
  go_ret
  exact ⟨rfl, rfl⟩
end Go.Proofs.YthooljlikllnpaaDoor
