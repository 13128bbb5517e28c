/- Chapter 11: a writer leaves all else Chapter 11: a writer beside the store Chapter 11: values are written -/
import Derived.Test.YthikdpclifeonaaGreatDoorK29
namespace Go.Proofs.YthikdpclifeonaaGreatDoor.V
section
set_option linter.unusedVariables false
set_option linter.unusedSimpArgs false
open Go.RowKit
open Go.Proofs.YthikdpclifeonaaGreatDoor

/-- All is kept but the writer, and rows of bytes from B on. -/
structure KB (B b : Nat) (w w' : World) : Prop where
  os : w'.os = w.os
  tape : w'.tape = w.tape
  output : w'.output = w.output
  size : w.heap.size ≤ w'.heap.size
  block : ∀ k, k < w.heap.size → k ≠ b → (∀ cs fz, w.heap[k]? = some (.cells cs 5 fz) → k < B) → w'.heap[k]? = w.heap[k]?
theorem KB.refl (B b : Nat) (w : World) : KB B b w w := ⟨rfl, rfl, rfl, Nat.le_refl _, fun _ _ _ _ => rfl⟩
theorem KB.trans {B b : Nat} {u v x : World} (h : KB B b u v) (k : KB B b v x) : KB B b u x :=
  ⟨k.os.trans h.os, k.tape.trans h.tape, k.output.trans h.output, Nat.le_trans h.size k.size, fun i hi hr hc => by
    have e := h.block i hi hr hc
    exact (k.block i (Nat.lt_of_lt_of_le hi h.size) hr (fun cs fz hx => hc cs fz (e.symm.trans hx))).trans e⟩
theorem KB.ofBelow {B b : Nat} {w w' : World} (h : Below w.heap.size w w') : KB B b w w' := ⟨h.os, h.tape, h.output, h.size, fun k hk _ _ => h.block k hk⟩
theorem KB.set {B b : Nat} {w w' : World} (h : KB B b w w') (q : Nat) (v : Value) : KB B b w (w'.setCell ⟨b, q, none⟩ v) :=
  ⟨h.os, h.tape, h.output, by have := h.size; simp; omega, fun k hk hr hc => (Below.heap_setCell _ _ _ _ (by simpa using hr)).trans (h.block k hk hr hc)⟩
theorem KB.grown {B b : Nat} {w w1 w2 : World} {ro : Option Nat} (h : KB B b w w1) (hg : w1.grownBy w2 ro) (ht : ∀ z, ro = some z → ∃ cs fz, w1.heap[z]? = some (.cells cs 5 fz)) (hz : ∀ z, ro = some z → B ≤ z) : KB B b w w2 :=
  ⟨hg.os.trans h.os, hg.tape.trans h.tape, hg.output.trans h.output, Nat.le_trans h.size hg.size, fun k hk hr hc => by
    have e := h.block k hk hr hc
    refine (hg.block k (Nat.lt_of_lt_of_le hk h.size) (fun eq => ?_)).trans e
    obtain ⟨cs, fz, hx⟩ := ht k eq.symm
    have := hc cs fz (e.symm.trans hx)
    have := hz k eq.symm
    omega⟩
theorem KB.at {B b : Nat} {w w' : World} (h : KB B b w w') {k : Nat} {cs : Array Value} {t : TypeId} {fz : Nat × Nat} (hk : w.heap[k]? = some (.cells cs t fz)) (ht : t ≠ 5) (hr : k ≠ b) : w'.heap[k]? = some (.cells cs t fz) := by
  refine (h.block k (Array.getElem?_eq_some_iff.1 hk).1 hr (fun cs' fz' hx => ?_)).trans hk
  rw [hk] at hx
  simp only [Option.some.injEq, Obj.cells.injEq] at hx
  exact absurd hx.2.1 ht
theorem cc_kb (B b : Nat) (k : Int) (l : List UInt8) (w : World) (h : Wr B b k l w) :
    Calls Tryz.prog 176 #[.pointer (some ⟨b, 0, none⟩)] w fun e w' => e = .returned (.tuple #[]) ∧ (WV B b (.pointer (some ⟨b, 0, none⟩)) k l w' ∧ KB B b w w') := by
  rcases h with h | h
  · refine (cc_fresh b w h.cell0 h.shape h.frozen0).mono ?_
    rintro e w' ⟨rfl, rfl⟩
    exact ⟨rfl, h.used _, (KB.refl B b w).set 0 _⟩
  · refine (cc_used b w h.cell0).mono ?_
    rintro e w' ⟨rfl, rfl⟩
    exact ⟨rfl, h, KB.refl B b _⟩

set_option maxHeartbeats 1000000 in
set_option maxRecDepth 100000 in
/-- One byte more. -/
theorem WriteByte_kb (B b : Nat) (k : Int) (l : List UInt8) (c : UInt8) (w : World) (h : Wr B b k l w) (hlen : l.length + 1 ≤ 100000000) (hBw : B ≤ w.heap.size) :
    Calls Tryz.prog 177 #[.pointer (some ⟨b, 0, none⟩), .int .u8 (c.toNat : Int)] w fun e w' => e = .returned .nilIface ∧ Wr B b k (l ++ [c]) w' ∧ KB B b w w' := by
  obtain ⟨i0, hi, hz0, hz1, hz2⟩ := info_parts infoByte
  have hle : (Lib.byteCells l).length = l.length := Lib.byteCells_length l
  have HE : Hid ((Lib.byteCells l).length = l.length) := hle
  clear hle
  go_enter Tryz.func177, Tryz.ntmps177
  go_wp2_with (go_at_call 176; refine (cc_kb B b k l _ h).mono ?_)
  rintro e w1 ⟨rfl, h1, hb1⟩
  obtain ⟨hB, v, hbk, hown, hne⟩ := h1
  have c0 : w1.cell? ⟨b, 0, none⟩ = some (.pointer (some ⟨b, 0, none⟩)) := by rw [Lib.cell_of_heap hbk]; rfl
  have c1 : w1.cell? ⟨b, 1, none⟩ = some v := by rw [Lib.cell_of_heap hbk]; rfl
  go_wp2_with (at_builtin; refine wpList_append_ownF _ rfl _ _ 202 rfl B 5 i0 (.int .u8 0) 1 1 Tryz.underlying202 hi hz0 hz1 hz2 rfl (by decide) _ _ _ rfl (hown.alloc _) ⟨w1.heap.size, 0, none⟩ 1 1 [.int .u8 (c.toNat : Int)] rfl rfl ?c1 ?c2 ?c3 ?c4 ?c5 ?_)
  case c1 =>
    intro j u hj
    match j, hj with
    | 0, hj => simp at hj; subst hj; simp [Addr.add]
  case c2 => intro u hu; simp at hu; subst hu; rfl
  case c3 => have := HE.out; unfold maxLen; omega
  case c4 => have := HE.out; omega
  case c5 => have := hb1.size; simp; omega
  intro v' w2 hown' hgrow _
  have hlt : b < w1.heap.size := (Array.getElem?_eq_some_iff.1 hbk).1
  have hb2 : w2.heap[b]? = some (.cells #[.pointer (some ⟨b, 0, none⟩), v, .int .i64 k] 262 (0, 0)) := by
    rw [hgrow.block b (by simp; omega) (fun e => hne e.symm), Lib.alloc_old w1 _ b hlt]
    exact hbk
  have d0 : w2.cell? ⟨b, 0, none⟩ = some (.pointer (some ⟨b, 0, none⟩)) := by rw [Lib.cell_of_heap hb2]; rfl
  have d1 : w2.cell? ⟨b, 1, none⟩ = some v := by rw [Lib.cell_of_heap hb2]; rfl
  have f1 : w2.frozen? ⟨b, 1, none⟩ = false := Lib.frozen_of_heap hb2 1
  obtain ⟨g, cap, rfl⟩ : ∃ g cap, v' = .slice (some ⟨g, 0, none⟩) ((Lib.byteCells l).length + 1) cap := by
    rcases hown'.2 with ⟨_, h0⟩ | ⟨g, cap, cur, fz, hv, _⟩
    · omega
    · exact ⟨g, cap, hv⟩
  go_wp2
  go_ret
  refine ⟨rfl, ?_, ?_⟩
  · refine Or.inr ?_
    have e1 : Lib.byteCells (l ++ [c]) = Lib.byteCells l ++ [.int .u8 (c.toNat : Int)] := by rw [Lib.byteCells_append]; rfl
    exact WV.put hB hb2 (by rw [e1]; simpa using hown')
  · exact ((hb1.trans (KB.ofBelow ((Below.refl _ w1).alloc (Nat.le_refl _) _))).grown hgrow (fun z hz => Lib.ownsRowF_kind (hown.alloc _) z hz) (fun z hz => (hown.lt z hz).1)).set 1 _

set_option maxHeartbeats 1000000 in
set_option maxRecDepth 100000 in
/-- A text more. -/
theorem WriteString_kb (B b : Nat) (k : Int) (l : List UInt8) (s : ByteArray) (w : World) (h : Wr B b k l w) (hlen : l.length + s.size ≤ 100000000) (hBw : B ≤ w.heap.size) :
    Calls Tryz.prog 159 #[.pointer (some ⟨b, 0, none⟩), .string s] w fun e w' => e = .returned (.tuple #[.int .i64 s.size, .nilIface]) ∧ Wr B b k (l ++ s.data.toList) w' ∧ KB B b w w' := by
  obtain ⟨i0, hi, hz0, hz1, hz2⟩ := info_parts infoByte
  have HE : Hid ((Lib.byteCells l).length = l.length) := Lib.byteCells_length l
  go_enter Tryz.func159, Tryz.ntmps159
  go_wp2_with (go_at_call 176; refine (cc_kb B b k l _ h).mono ?_)
  rintro e w1 ⟨rfl, h1, hb1⟩
  obtain ⟨hB, v, hbk, hown, hne⟩ := h1
  have c0 : w1.cell? ⟨b, 0, none⟩ = some (.pointer (some ⟨b, 0, none⟩)) := by rw [Lib.cell_of_heap hbk]; rfl
  have c1 : w1.cell? ⟨b, 1, none⟩ = some v := by rw [Lib.cell_of_heap hbk]; rfl
  go_wp2_with (at_builtin; refine Lib.wpList_append_own_stringF _ rfl _ _ 202 9 rfl B 5 i0 Tryz.underlying202 Tryz.underlying9 hi hz0 hz1 hz2 _ _ _ rfl hown s rfl ?c3 ?c4 ?c5 ?_)
  case c3 => have := HE.out; unfold maxLen; omega
  case c4 => have := HE.out; omega
  case c5 => have := hb1.size; omega
  intro v' w2 hown' hgrow _
  have hlt : b < w1.heap.size := (Array.getElem?_eq_some_iff.1 hbk).1
  have hb2 : w2.heap[b]? = some (.cells #[.pointer (some ⟨b, 0, none⟩), v, .int .i64 k] 262 (0, 0)) := by
    rw [hgrow.block b hlt (fun e => hne e.symm)]
    exact hbk
  have d0 : w2.cell? ⟨b, 0, none⟩ = some (.pointer (some ⟨b, 0, none⟩)) := by rw [Lib.cell_of_heap hb2]; rfl
  have d1 : w2.cell? ⟨b, 1, none⟩ = some v := by rw [Lib.cell_of_heap hb2]; rfl
  have f1 : w2.frozen? ⟨b, 1, none⟩ = false := Lib.frozen_of_heap hb2 1
  obtain ⟨ao, n', cap, rfl⟩ : ∃ ao n' cap, v' = .slice ao n' cap := by
    rcases hown'.2 with ⟨hv, _⟩ | ⟨g, cap, cur, fz, hv, _⟩
    · exact ⟨_, _, _, hv⟩
    · exact ⟨_, _, _, hv⟩
  go_wp2
  go_ret2
  refine ⟨rfl, ?_, ?_⟩
  · refine Or.inr ?_
    exact WV.put hB hb2 (by rw [Lib.byteCells_append, ← strCells_byte]; simpa [Lib.strCells_length] using hown')
  · exact (hb1.grown hgrow (fun z hz => Lib.ownsRowF_kind hown z hz) (fun z hz => (hown.lt z hz).1)).set 1 _
end
section
set_option linter.unusedVariables false
set_option linter.unusedSimpArgs false
open Go.RowKit
open Go.Proofs.YthikdpclifeonaaGreatDoor

theorem no104 (t : TypeId) (h : t ≠ 162) (v : Value) (w : World) : (Instr.typeAssert (.iface t v) 155 162 true).run Tryz.prog w = .ok (.tuple #[.int .i64 0, .bool false]) w := by
  obtain ⟨i, hi, hz⟩ := Option.map_eq_some_iff.1 (show (Tryz.prog.info? 162).map (·.zero) = some (some (.int .i64 0)) by kernel_rfl)
  simp [Instr.typeAssert, run_underlying Tryz.underlying162, hi, hz, h]
theorem no105 (t : TypeId) (h : t ≠ 163) (v : Value) (w : World) : (Instr.typeAssert (.iface t v) 155 163 true).run Tryz.prog w = .ok (.tuple #[.bool false, .bool false]) w := by
  obtain ⟨i, hi, hz⟩ := Option.map_eq_some_iff.1 (show (Tryz.prog.info? 163).map (·.zero) = some (some (.bool false)) by kernel_rfl)
  simp [Instr.typeAssert, run_underlying Tryz.underlying163, hi, hz, h]
theorem no137 (t : TypeId) (h : t ≠ 220) (v : Value) (w : World) : (Instr.typeAssert (.iface t v) 155 220 true).run Tryz.prog w = .ok (.tuple #[.string ⟨#[]⟩, .bool false]) w := by
  obtain ⟨i, hi, hz⟩ := Option.map_eq_some_iff.1 (show (Tryz.prog.info? 220).map (·.zero) = some (some (.string ⟨#[]⟩)) by kernel_rfl)
  simp [Instr.typeAssert, run_underlying Tryz.underlying220, hi, hz, h]
theorem no157 (t : TypeId) (h : t ≠ 242) (v : Value) (w : World) : (Instr.typeAssert (.iface t v) 155 242 true).run Tryz.prog w = .ok (.tuple #[.agg #[], .bool false]) w := by
  obtain ⟨i, hi, hz⟩ := Option.map_eq_some_iff.1 (show (Tryz.prog.info? 242).map (·.zero) = some (some (.agg #[])) by kernel_rfl)
  simp [Instr.typeAssert, run_underlying Tryz.underlying242, hi, hz, h]
theorem no158 (t : TypeId) (h : t ≠ 243) (v : Value) (w : World) : (Instr.typeAssert (.iface t v) 155 243 true).run Tryz.prog w = .ok (.tuple #[.pointer none, .bool false]) w := by
  obtain ⟨i, hi, hz⟩ := Option.map_eq_some_iff.1 (show (Tryz.prog.info? 243).map (·.zero) = some (some (.pointer none)) by kernel_rfl)
  simp [Instr.typeAssert, run_underlying Tryz.underlying243, hi, hz, h]
theorem yes137 (v : Value) (w : World) : (Instr.typeAssert (.iface 220 v) 155 220 true).run Tryz.prog w = .ok (.tuple #[v, .bool true]) w := by
  simp [Instr.typeAssert, run_underlying Tryz.underlying220]
theorem yes157 (v : Value) (w : World) : (Instr.typeAssert (.iface 242 v) 155 242 true).run Tryz.prog w = .ok (.tuple #[v, .bool true]) w := by
  simp [Instr.typeAssert, run_underlying Tryz.underlying242]
/-- A block of another kind stays. -/
theorem KR.at {B rb : Nat} {gb : Rc} {m : Mm} {σ : St} {w w' : World} (h : KR B rb gb m w w') (r : Rel B rb gb m σ w) {k : Nat} {cs : Array Value} {t : TypeId} {fz : Nat × Nat} (hk : w.heap[k]? = some (.cells cs t fz)) (t1 : t ≠ 65) (t2 : t ≠ 245) (t3 : t ≠ 155) (t4 : t ≠ 9) : w'.heap[k]? = some (.cells cs t fz) := by
  refine (h.block k (Array.getElem?_eq_some_iff.1 hk).1 ?_ ?_ ?_ ?_ ?_).trans hk
  · obtain ⟨tv, hR, _⟩ := r.run
    exact ne_type hR hk t1
  · trivial
  · intro hm
    obtain ⟨i, hi, e⟩ := List.getElem_of_mem hm
    obtain ⟨p, _, hp, _⟩ := r.lt (i := i) (k := k) (by rw [List.getElem?_eq_getElem hi, e])
    obtain ⟨ds, hd⟩ := hp.block
    exact absurd rfl (ne_type hd hk t2)
  · intro hm
    obtain ⟨i, hi, e⟩ := List.getElem_of_mem hm
    have hil : i < σ.rows.length := by rw [← r.lr]; exact hi
    obtain ⟨_, c0, hd⟩ := r.rw i k _ (List.getElem?_eq_getElem hil) (by rw [List.getElem?_eq_getElem hi, e])
    exact absurd rfl (ne_type hd hk t3)
  · intro ds gz hx
    rw [hk] at hx
    simp only [Option.some.injEq, Obj.cells.injEq] at hx
    exact absurd hx.2.1 t4
/-- The writer stays, while pairs are made. -/
theorem Wr.kr {B rb : Nat} {gb : Rc} {m : Mm} {σ : St} {w w' : World} {Bw b : Nat} {n : Int} {l : List UInt8} (hw : Wr Bw b n l w) (h : KR B rb gb m w w') (r : Rel B rb gb m σ w) : Wr Bw b n l w' := by
  have key : ∀ p, WV Bw b p n l w → WV Bw b p n l w' := by
    rintro p ⟨h1, v, h2, h3, h4⟩
    refine ⟨h1, v, h.at r h2 (by decide) (by decide) (by decide) (by decide), ⟨h3.1, ?_⟩, h4⟩
    rcases h3.2 with q | ⟨g, cap, cur, fz, q1, q2, q3, q4⟩
    · exact Or.inl q
    · exact Or.inr ⟨g, cap, cur, fz, q1, q2, h.at r q3 (by decide) (by decide) (by decide) (by decide), q4⟩
  exact hw.elim (fun q => Or.inl (key _ q)) (fun q => Or.inr (key _ q))
theorem Wr.box {Bw b : Nat} {n : Int} {l : List UInt8} {w : World} (h : Wr Bw b n l w) : Bw ≤ b ∧ ∃ cs, w.heap[b]? = some (.cells cs 262 (0, 0)) := by
  obtain ⟨p, _, hB, v, hb, _⟩ := h.at
  exact ⟨hB, _, hb⟩
/-- The store stays, while something is written. -/
theorem Rel.kb {B rb : Nat} {gb : Rc} {Bw b : Nat} {m : Mm} {σ : St} {w w' : World} {n : Int} {l : List UInt8} (h : Rel B rb gb m σ w) (k : KB Bw b w w') (hw : Wr Bw b n l w) (hB : B ≤ Bw) (hs : B ≤ w.heap.size) : Rel B rb gb m σ w' := by
  obtain ⟨hBb, cs, hbx⟩ := hw.box
  have hkd : Kd w w' := fun q ds t hq ht => k.at hq (by rcases ht with rfl | rfl | rfl | rfl <;> decide) (ne_type hbx hq (by rcases ht with rfl | rfl | rfl | rfl <;> decide))
  have hbb : Below B w w' := ⟨k.os, k.tape, k.output, k.size, fun q hq => k.block q (by omega) (by omega) (fun _ _ _ => by omega)⟩
  refine h.keep hkd hbb σ.out ?_
  · refine h.run.stay k.size k.os k.tape k.output (fun q hq hc => ?_)
    rcases hc with rfl | ⟨ds, fz, hc⟩
    · obtain ⟨tv, hR, _⟩ := h.run
      exact (k.at hR (by decide) (ne_type hbx hR (by decide))).trans (show w.heap[q]? = _ from hR).symm
    · exact (k.at hc (by decide) (ne_type hbx hc (by decide))).trans hc.symm
/-- What is kept while a value is written: all but the store, the writer and its bytes. -/
structure KS (B rb : Nat) (gb : Rc) (Bw b : Nat) (m : Mm) (w w' : World) : Prop where
  os : w'.os = w.os
  tape : w'.tape = w.tape
  output : w'.output = w.output
  size : w.heap.size ≤ w'.heap.size
  block : ∀ k, k < w.heap.size → k ≠ rb → True → k ≠ b → k ∉ m.pr → k ∉ m.rw → (∀ cs fz, w.heap[k]? = some (.cells cs 9 fz) → k < B) → (∀ cs fz, w.heap[k]? = some (.cells cs 5 fz) → k < Bw) → w'.heap[k]? = w.heap[k]?
theorem KS.refl (B rb : Nat) (gb : Rc) (Bw b : Nat) (m : Mm) (w : World) : KS B rb gb Bw b m w w := ⟨rfl, rfl, rfl, Nat.le_refl _, fun _ _ _ _ _ _ _ _ _ => rfl⟩
theorem KS.ofKR {B rb : Nat} {gb : Rc} {Bw b : Nat} {m : Mm} {w w' : World} (h : KR B rb gb m w w') : KS B rb gb Bw b m w w' := ⟨h.os, h.tape, h.output, h.size, fun k hk h1 h2 _ h4 h5 h6 _ => h.block k hk h1 h2 h4 h5 h6⟩
theorem KS.ofKB {B rb : Nat} {gb : Rc} {Bw b : Nat} {m : Mm} {w w' : World} (h : KB Bw b w w') : KS B rb gb Bw b m w w' := ⟨h.os, h.tape, h.output, h.size, fun k hk _ _ h3 _ _ _ h7 => h.block k hk h3 h7⟩
theorem KS.trans {B rb : Nat} {gb : Rc} {Bw b : Nat} {m m' : Mm} {x y z : World} (h : KS B rb gb Bw b m x y) (n : New m m' x) (k : KS B rb gb Bw b m' y z) : KS B rb gb Bw b m x z :=
  ⟨k.os.trans h.os, k.tape.trans h.tape, k.output.trans h.output, Nat.le_trans h.size k.size, fun i hi h1 h2 h3 h4 h5 h6 h7 => by
    have e := h.block i hi h1 h2 h3 h4 h5 h6 h7
    refine (k.block i (Nat.lt_of_lt_of_le hi h.size) h1 h2 h3 (fun hm => ?_) (fun hm => ?_) (fun cs fz hx => h6 cs fz (e.symm.trans hx)) (fun cs fz hx => h7 cs fz (e.symm.trans hx))).trans e
    · rcases n.pr i hm with q | q
      · exact h4 q
      · omega
    · rcases n.rw i hm with q | q
      · exact h5 q
      · omega⟩
end
section
set_option linter.unusedVariables false
set_option linter.unusedSimpArgs false
open Go.RowKit
open Go.Proofs.YthikdpclifeonaaGreatDoor

/-- What is told of a value that is written. -/
def ToldS (B rb : Nat) (gb : Rc) (Bw b : Nat) (m : Mm) (w : World) (tl n : Nat) (r : Res Wrt × St) (e : Ending) (w' : World) : Prop :=
  ∃ m', Rel B rb gb m' r.2 w' ∧ New m m' w ∧ KS B rb gb Bw b m w w' ∧
    match r.1 with
    | .ok x => e = .returned (.tuple #[]) ∧ Wr Bw b (x.nodes : Int) x.txt w' ∧ n + 1 ≤ x.nodes ∧ x.nodes ≤ 300 ∧ x.txt.length + 100 ≤ tl + 300 * (x.nodes - n)
    | .bad h => e = .panicked (endP h)
/-- What is known as a value is about to be written. -/
structure ShowAt (B rb : Nat) (gb : Rc) (Bw b T : Nat) (m : Mm) (σ : St) (n : Nat) (txt : List UInt8) (w : World) : Prop where
  rel : Rel B rb gb m σ w
  wr : Wr Bw b (n : Int) txt w
  hB : B ≤ Bw
  hw : Bw ≤ w.heap.size
  hT : T ≤ B
  tab : Tab T w
  hn : n ≤ 300
  len : txt.length ≤ 300 * n + 1000
theorem leaf_end {B rb : Nat} {gb : Rc} {Bw b T n : Nat} {m : Mm} {σ : St} {txt s : List UInt8} {w w' : World} (h : ShowAt B rb gb Bw b T m σ n txt w) (hn : n < 300) (hk : KB Bw b w w') (hw : Wr Bw b ((n + 1 : Nat) : Int) (txt ++ s) w') (hs : s.length ≤ 100) :
    ToldS B rb gb Bw b m w txt.length n (.ok ⟨txt ++ s, n + 1⟩, σ) (.returned (.tuple #[])) w' :=
  ⟨m, h.rel.kb hk h.wr h.hB (Nat.le_trans h.hB h.hw), New.refl m w, KS.ofKB hk, rfl, hw, Nat.le_refl _, hn, by simp; omega⟩
set_option maxRecDepth 100000 in
set_option maxHeartbeats 1600000 in
theorem truth_kb (B b : Nat) (k : Int) (q : Bool) (l : List UInt8) (w : World) (h : Wr B b k l w) (hl : l.length ≤ 1000000) (hBw : B ≤ w.heap.size) :
    Calls Tryz.prog 160 #[.pointer (some ⟨b, 0, none⟩), .bool q] w fun e w' => e = .returned (.tuple #[]) ∧ Wr B b k (l ++ truthB q) w' ∧ KB B b w w' := by
  have WS : Hid (Calls Tryz.prog 159 #[.pointer (some ⟨b, 0, none⟩), .string ⟨(truthB q).toArray⟩] w fun e w' => e = .returned (.tuple #[.int .i64 2, .nilIface]) ∧ Wr B b k (l ++ truthB q) w' ∧ KB B b w w') := by
    have := WriteString_kb B b k l ⟨(truthB q).toArray⟩ w h (by show l.length + (truthB q).toArray.size ≤ _; simp [truthB]; omega) hBw
    have e : ByteArray.size ⟨(truthB q).toArray⟩ = 2 := by cases q <;> rfl
    rw [e] at this
    exact this
  clear h
  cases q
  · unfold truthB at *
    simp only [if_false, Bool.false_eq_true] at WS
    go_enter Tryz.func160, Tryz.ntmps160
    go_wp2_with fail
    refine WS.out.mono ?_
    rintro e w1 ⟨rfl, h1, h2⟩
    go_wp2_with fail
    go_end0
    exact ⟨rfl, h1, h2⟩
  · unfold truthB at *
    simp only [if_true] at WS
    go_enter Tryz.func160, Tryz.ntmps160
    go_wp2_with fail
    refine WS.out.mono ?_
    rintro e w1 ⟨rfl, h1, h2⟩
    go_wp2_with fail
    go_end0
    exact ⟨rfl, h1, h2⟩
/-- What is met first: the nodes are counted. -/
theorem ShowAt.node {B rb : Nat} {gb : Rc} {Bw b T n : Nat} {m : Mm} {σ : St} {txt : List UInt8} {w : World} (h : ShowAt B rb gb Bw b T m σ n txt w) : w.cell? ⟨b, 2, none⟩ = some (.int .i64 n) ∧ w.frozen? ⟨b, 2, none⟩ = false ∧ KB Bw b w (w.setCell ⟨b, 2, none⟩ (.int .i64 ((n + 1 : Nat) : Int))) ∧ Wr Bw b ((n + 1 : Nat) : Int) txt (w.setCell ⟨b, 2, none⟩ (.int .i64 ((n + 1 : Nat) : Int))) := by
  obtain ⟨_, c2, z2⟩ := h.wr.parts
  exact ⟨c2, z2, (KB.refl Bw b w).set 2 _, h.wr.node _⟩
set_option maxRecDepth 100000 in
set_option maxHeartbeats 1600000 in
/-- Too many nodes. -/
theorem value_much (B rb : Nat) (gb : Rc) (Bw b T n : Nat) (m : Mm) (σ : St) (txt : List UInt8) (t : TypeId) (x : Value) (w : World) (h : ShowAt B rb gb Bw b T m σ n txt w) (hn : 300 < n + 1) :
    Calls Tryz.prog 140 #[.pointer (some ⟨b, 0, none⟩), .iface t x] w (ToldS B rb gb Bw b m w txt.length n (.bad 7, σ)) := by
  obtain ⟨c2, z2, hk, hw⟩ := h.node
  have HK := hidd hk
  have HT : Hid (ToldS B rb gb Bw b m w txt.length n (.bad 7, σ) (.panicked (endP 7)) (w.setCell ⟨b, 2, none⟩ (.int .i64 ((n + 1 : Nat) : Int)))) := ⟨m, h.rel.kb hk h.wr h.hB (Nat.le_trans h.hB h.hw), New.refl m w, KS.ofKB hk, rfl⟩
  have hn3 : n = 300 := by have := h.hn; omega
  subst hn3
  clear h hk hw hn
  go_enter Tryz.func140, Tryz.ntmps140
  go_wp2_with fail
  refine (Must_no 7 _).mono ?_
  rintro e w1 ⟨rfl, rfl⟩
  go_wp2_with fail
  exact ⟨rfl, HT.out⟩
end
end Go.Proofs.YthikdpclifeonaaGreatDoor.V
