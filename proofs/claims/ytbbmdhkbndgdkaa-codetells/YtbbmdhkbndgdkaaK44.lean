/- The document's code of a number, a truth, what is quoted, a name. -/
import Derived.Test.YtbbmdhkbndgdkaaK43
namespace Go.Proofs.Ytbbmdhkbndgdkaa
set_option linter.unusedVariables false
set_option linter.unusedSimpArgs false
open Go.RowKit

theorem genC_leaf {k : Int} (i n : Int) (lb ow : ByteArray) (q : Dat) (at0 pr : Nat) (h8 : ¬ k = 8) (h7 : ¬ k = 7) (h12 : ¬ k = 12) : genC ⟨k, i, n, lb, ow, q, []⟩ at0 pr = ([lastI ⟨k, i, n, lb, ow, q, []⟩], []) := by
  rw [genC_else i n lb ow q [] at0 pr h8 h7 h12, genL]; rfl
theorem ie_plain (ok : Nat → Prop) (w : World) (i : In) (h1 : i.lib.size ≤ maxLen) (h2 : i.own.size ≤ maxLen) (h3 : i.quote = emD) : (IE.mk i none 0).Ok ok w := by
  refine ⟨h1, h2, ?_, ?_, 0, ?_⟩
  · show i.quote.name.size ≤ maxLen; rw [h3]; exact Nat.zero_le _
  · show i.quote.kids.length ≤ 0; rw [h3]; exact Nat.le_refl _
  · show Dc ok w 0 none i.quote.kids; rw [h3]; rfl
/-- What Code begins with. -/
def codeB (w : World) (A : Array Value) : World := (w.alloc (.cells A 40)).alloc (.cells #[.slice none 0 0] 42)
theorem codeB_size (w : World) (A : Array Value) : (codeB w A).heap.size = w.heap.size + 1 + 1 := by unfold codeB; simp
theorem codeB_below (w : World) (A : Array Value) : Below w.heap.size w (codeB w A) := ((Below.refl _ _).alloc (Nat.le_refl _) _).alloc (by simp) _
theorem codeB_in (w : World) (A : Array Value) : (codeB w A).heap[w.heap.size]? = some (.cells A 40 (0, 0)) := (Below.heap_alloc _ _ _ (by simp)).trans (World.alloc_heap_new w _)
theorem codeB_out (w : World) (A : Array Value) : (codeB w A).heap[w.heap.size + 1]? = some (.cells #[.slice none 0 0] 42 (0, 0)) := by
  have := World.alloc_heap_new (w.alloc (.cells A 40)) (.cells #[.slice none 0 0] 42)
  unfold codeB
  simpa using this

set_option maxRecDepth 100000 in
set_option maxHeartbeats 1600000 in
theorem Code_1 (B : Nat) (X : Nat → Prop) (G : Nat) (pv av : Value) (ps : List PE) (i nn : Int) (lb ow : ByteArray) (q : Dat) (qa ka : Option Addr) (qc kc : Nat) (w : World) (hl : lb.size ≤ maxLen) (ho : ow.size ≤ maxLen) (h : GS B X G pv av ps w) :
    Calls Try.prog 20 #[.pointer (some ⟨G, 0, none⟩), .agg (cva ⟨1, i, nn, lb, ow, q, []⟩ qa qc ka kc)] w (ToldG B X G pv av ps (genC ⟨1, i, nn, lb, ow, q, []⟩ 0 ps.length) w) := by
  rw [genC_leaf i nn lb ow q 0 ps.length (by decide) (by decide) (by decide)]
  have hI : lastI ⟨1, i, nn, lb, ow, q, []⟩ = insN 1 nn := by unfold lastI; simp
  rw [hI]
  have END := hidd (ToldG.one h (codeB_below w #[.int .i64 1, .int .i64 i, .int .i64 nn, .string lb, .string ow, .int .i64 q.kind, .int .i64 q.n, .string q.name, .int .i64 q.stamp, .int .i64 q.lib, .slice qa q.kids.length qc, .slice ka ([] : List Cor).length kc]) ⟨insN 1 nn, none, 0⟩ (ie_plain _ _ _ (Nat.zero_le _) (Nat.zero_le _) rfl))
  rw [codeB_size] at END
  clear hI h
  unfold cva
  simp only
  go_enter Try.func20, Try.ntmps20
  go_wp2_with fail
  go_ret
  exact END.out

set_option maxRecDepth 100000 in
set_option maxHeartbeats 1600000 in
theorem Code_2 (B : Nat) (X : Nat → Prop) (G : Nat) (pv av : Value) (ps : List PE) (i nn : Int) (lb ow : ByteArray) (q : Dat) (qa ka : Option Addr) (qc kc : Nat) (w : World) (hl : lb.size ≤ maxLen) (ho : ow.size ≤ maxLen) (h : GS B X G pv av ps w) :
    Calls Try.prog 20 #[.pointer (some ⟨G, 0, none⟩), .agg (cva ⟨2, i, nn, lb, ow, q, []⟩ qa qc ka kc)] w (ToldG B X G pv av ps (genC ⟨2, i, nn, lb, ow, q, []⟩ 0 ps.length) w) := by
  rw [genC_leaf i nn lb ow q 0 ps.length (by decide) (by decide) (by decide)]
  have hI : lastI ⟨2, i, nn, lb, ow, q, []⟩ = insN 2 nn := by unfold lastI; simp
  rw [hI]
  have END := hidd (ToldG.one h (codeB_below w #[.int .i64 2, .int .i64 i, .int .i64 nn, .string lb, .string ow, .int .i64 q.kind, .int .i64 q.n, .string q.name, .int .i64 q.stamp, .int .i64 q.lib, .slice qa q.kids.length qc, .slice ka ([] : List Cor).length kc]) ⟨insN 2 nn, none, 0⟩ (ie_plain _ _ _ (Nat.zero_le _) (Nat.zero_le _) rfl))
  rw [codeB_size] at END
  clear hI h
  unfold cva
  simp only
  go_enter Try.func20, Try.ntmps20
  go_wp2_with fail
  go_ret
  exact END.out

set_option maxRecDepth 100000 in
set_option maxHeartbeats 1600000 in
theorem Code_4 (B : Nat) (X : Nat → Prop) (G : Nat) (pv av : Value) (ps : List PE) (i nn : Int) (lb ow : ByteArray) (q : Dat) (qa ka : Option Addr) (qc kc : Nat) (w : World) (hl : lb.size ≤ maxLen) (ho : ow.size ≤ maxLen) (h : GS B X G pv av ps w) :
    Calls Try.prog 20 #[.pointer (some ⟨G, 0, none⟩), .agg (cva ⟨4, i, nn, lb, ow, q, []⟩ qa qc ka kc)] w (ToldG B X G pv av ps (genC ⟨4, i, nn, lb, ow, q, []⟩ 0 ps.length) w) := by
  rw [genC_leaf i nn lb ow q 0 ps.length (by decide) (by decide) (by decide)]
  have hI : lastI ⟨4, i, nn, lb, ow, q, []⟩ = insA 4 i := by unfold lastI; simp
  rw [hI]
  have END := hidd (ToldG.one h (codeB_below w #[.int .i64 4, .int .i64 i, .int .i64 nn, .string lb, .string ow, .int .i64 q.kind, .int .i64 q.n, .string q.name, .int .i64 q.stamp, .int .i64 q.lib, .slice qa q.kids.length qc, .slice ka ([] : List Cor).length kc]) ⟨insA 4 i, none, 0⟩ (ie_plain _ _ _ (Nat.zero_le _) (Nat.zero_le _) rfl))
  rw [codeB_size] at END
  clear hI h
  unfold cva
  simp only
  go_enter Try.func20, Try.ntmps20
  go_wp2_with fail
  go_ret
  exact END.out

set_option maxRecDepth 100000 in
set_option maxHeartbeats 1600000 in
theorem Code_5 (B : Nat) (X : Nat → Prop) (G : Nat) (pv av : Value) (ps : List PE) (i nn : Int) (lb ow : ByteArray) (q : Dat) (qa ka : Option Addr) (qc kc : Nat) (w : World) (hl : lb.size ≤ maxLen) (ho : ow.size ≤ maxLen) (h : GS B X G pv av ps w) :
    Calls Try.prog 20 #[.pointer (some ⟨G, 0, none⟩), .agg (cva ⟨5, i, nn, lb, ow, q, []⟩ qa qc ka kc)] w (ToldG B X G pv av ps (genC ⟨5, i, nn, lb, ow, q, []⟩ 0 ps.length) w) := by
  rw [genC_leaf i nn lb ow q 0 ps.length (by decide) (by decide) (by decide)]
  have hI : lastI ⟨5, i, nn, lb, ow, q, []⟩ = insG 5 lb ow := by unfold lastI; simp
  rw [hI]
  have END := hidd (ToldG.one h (codeB_below w #[.int .i64 5, .int .i64 i, .int .i64 nn, .string lb, .string ow, .int .i64 q.kind, .int .i64 q.n, .string q.name, .int .i64 q.stamp, .int .i64 q.lib, .slice qa q.kids.length qc, .slice ka ([] : List Cor).length kc]) ⟨insG 5 lb ow, none, 0⟩ (ie_plain _ _ _ hl ho rfl))
  rw [codeB_size] at END
  clear hI h
  unfold cva
  simp only
  go_enter Try.func20, Try.ntmps20
  go_wp2_with fail
  go_ret
  exact END.out

set_option maxRecDepth 100000 in
set_option maxHeartbeats 1600000 in
theorem Code_6 (B : Nat) (X : Nat → Prop) (G : Nat) (pv av : Value) (ps : List PE) (i nn : Int) (lb ow : ByteArray) (q : Dat) (qa ka : Option Addr) (qc kc : Nat) (w : World) (hl : lb.size ≤ maxLen) (ho : ow.size ≤ maxLen) (h : GS B X G pv av ps w) :
    Calls Try.prog 20 #[.pointer (some ⟨G, 0, none⟩), .agg (cva ⟨6, i, nn, lb, ow, q, []⟩ qa qc ka kc)] w (ToldG B X G pv av ps (genC ⟨6, i, nn, lb, ow, q, []⟩ 0 ps.length) w) := by
  rw [genC_leaf i nn lb ow q 0 ps.length (by decide) (by decide) (by decide)]
  have hI : lastI ⟨6, i, nn, lb, ow, q, []⟩ = insG 6 ⟨#[]⟩ ow := by unfold lastI; simp
  rw [hI]
  have END := hidd (ToldG.one h (codeB_below w #[.int .i64 6, .int .i64 i, .int .i64 nn, .string lb, .string ow, .int .i64 q.kind, .int .i64 q.n, .string q.name, .int .i64 q.stamp, .int .i64 q.lib, .slice qa q.kids.length qc, .slice ka ([] : List Cor).length kc]) ⟨insG 6 ⟨#[]⟩ ow, none, 0⟩ (ie_plain _ _ _ (Nat.zero_le _) ho rfl))
  rw [codeB_size] at END
  clear hI h
  unfold cva
  simp only
  go_enter Try.func20, Try.ntmps20
  go_wp2_with fail
  go_ret
  exact END.out

set_option maxRecDepth 100000 in
set_option maxHeartbeats 1600000 in
theorem Code_3 (B0 B f : Nat) (hB : B0 ≤ B) (X : Nat → Prop) (G : Nat) (pv av : Value) (ps : List PE) (i nn : Int) (lb ow : ByteArray) (q : Dat) (qa ka : Option Addr) (qc kc : Nat) (w : World) (hqc : q.kids.length ≤ qc) (hqn : q.name.size ≤ maxLen) (hq : Dc (fun k => k < B0) w f qa q.kids) (hsm : smQ q) (hst : stQ q) (h : GS B X G pv av ps w) :
    Calls Try.prog 20 #[.pointer (some ⟨G, 0, none⟩), .agg (cva ⟨3, i, nn, lb, ow, q, []⟩ qa qc ka kc)] w (ToldG B X G pv av ps (genC ⟨3, i, nn, lb, ow, q, []⟩ 0 ps.length) w) := by
  rw [genC_leaf i nn lb ow q 0 ps.length (by decide) (by decide) (by decide)]
  have hI : lastI ⟨3, i, nn, lb, ow, q, []⟩ = { insO 3 with quote := bareQ q } := by unfold lastI; simp
  rw [hI]
  have HG := hidd h
  have hbw := codeB_below w #[.int .i64 3, .int .i64 i, .int .i64 nn, .string lb, .string ow, .int .i64 q.kind, .int .i64 q.n, .string q.name, .int .i64 q.stamp, .int .i64 q.lib, .slice qa q.kids.length qc, .slice ka ([] : List Cor).length kc]
  have BC := hidd (RBare_any f q qa qc (codeB w #[.int .i64 3, .int .i64 i, .int .i64 nn, .string lb, .string ow, .int .i64 q.kind, .int .i64 q.n, .string q.name, .int .i64 q.stamp, .int .i64 q.lib, .slice qa q.kids.length qc, .slice ka ([] : List Cor).length kc]) (Dc.stay (fun k hk => hbw.block k (Nat.lt_of_lt_of_le (Nat.lt_of_lt_of_le hk hB) h.ble)) (fun k hk => Nat.lt_of_lt_of_le (Nat.lt_of_lt_of_le (Nat.lt_of_lt_of_le hk hB) h.ble) hbw.size) _ _ _ hq) hqc hsm hst)
  have HBW := hidd hbw
  have HNM := hidd (bareQ_name q hqn)
  unfold codeB dv at BC
  clear hI h hbw hq hsm hst
  generalize bareQ q = rq at BC HNM ⊢
  unfold cva
  simp only
  go_enter Try.func20, Try.ntmps20
  go_wp2_with fail
  refine BC.out.mono ?_
  rintro e w2 ⟨hb2, a2, cap2, f2, rfl, hcap2, hdc2⟩
  have hb3 : Below w.heap.size w w2 := HBW.out.trans (Below.mono (B := (codeB w #[.int .i64 3, .int .i64 i, .int .i64 nn, .string lb, .string ow, .int .i64 q.kind, .int .i64 q.n, .string q.name, .int .i64 q.stamp, .int .i64 q.lib, .slice qa q.kids.length qc, .slice ka ([] : List Cor).length kc]).heap.size) hb2 HBW.out.size)
  have END := hidd (ToldG.one HG.out hb3 ⟨{ insO 3 with quote := rq }, a2, cap2⟩ ⟨Nat.zero_le _, Nat.zero_le _, HNM.out, hcap2, f2, Dc.stay (fun _ _ => rfl) (fun k hk => ⟨Nat.le_trans HBW.out.size hk.1, hk.2⟩) _ _ _ hdc2⟩)
  clear hb2 hb3 hdc2 BC HBW HG HNM
  unfold dv
  go_wp2_with fail
  go_ret
  exact END.out
end Go.Proofs.Ytbbmdhkbndgdkaa
