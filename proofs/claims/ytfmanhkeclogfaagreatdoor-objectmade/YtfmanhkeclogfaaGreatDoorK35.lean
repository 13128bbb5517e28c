/- Chapter 9: a unit, written. Chapter 9: a unit as bytes: package object's Bytes. -/
import Derived.Test.YtfmanhkeclogfaaGreatDoorK34
namespace Go.Proofs.YtfmanhkeclogfaaGreatDoor
section
set_option linter.unusedVariables false
set_option linter.unusedSimpArgs false
open Go.RowKit

def protoB (qt : Dat → ByteArray) (P : Pro) : List UInt8 := numB P.args ++ numB P.code.length ++ P.code.flatMap (insB qt)
/-- A UNIT'S BYTES. -/
def unitB (qt : Dat → ByteArray) (nm : ByteArray) (PP : List Pro) : List UInt8 := textB nm ++ numB PP.length ++ PP.flatMap (protoB qt)
/-- Each instruction is written so. -/
def WIok (qt : Dat → ByteArray) (B b : Nat) (PP : List Pro) : Prop := ∀ P, P ∈ PP → ∀ x, x ∈ P.code → ∀ (ib io : Nat) (qa : Option Addr) (qc : Nat) (l : List UInt8) (w : World), IL B w ib io x qa qc → ib < B → WR B b l w → B ≤ w.heap.size → l.length ≤ 100000 → Calls Tryz.prog 58 #[.pointer (some ⟨b, 0, none⟩), .pointer (some ⟨ib, io, none⟩)] w (ToldWI qt B b l x w)
theorem Fw.block {B b k : Nat} {w w' : World} {cs : Array Value} {t : TypeId} {fz : Nat × Nat} (h : Fw B b w w') (hk : w.heap[k]? = some (.cells cs t fz)) (hkb : k ≠ b) (ht : t ≠ 5) : w'.heap[k]? = some (.cells cs t fz) :=
  h.2 k _ hk (by simpa using hkb) (fun c f e => by simp at e; exact ht e.2.1)
theorem Fw.alloc {B b : Nat} {w w' : World} (h : Fw B b w w') (hB : B ≤ w.heap.size) (o : Obj) : Fw B b w (w'.alloc o) :=
  ⟨h.1.alloc (Nat.le_trans hB h.1.size) o, fun k x hk a c => by rw [Below.heap_alloc _ _ _ (by have := (Array.getElem?_eq_some_iff.1 (h.2 k x hk a c)).1; omega)]; exact h.2 k x hk a c⟩
theorem flat_more {α : Type} {f : α → List UInt8} {l : List α} {j : Nat} {p : α} (h : l[j]? = some p) : (l.take (j + 1)).flatMap f = (l.take j).flatMap f ++ f p := by
  obtain ⟨hi, e⟩ := List.getElem?_eq_some_iff.1 h
  rw [List.take_succ_eq_append_getElem hi, List.flatMap_append, List.flatMap_cons, List.flatMap_nil, List.append_nil, e]
theorem flat_le {α : Type} {f : α → List UInt8} (l : List α) (j : Nat) : ((l.take j).flatMap f).length ≤ (l.flatMap f).length := by
  have e := congrArg List.length (congrArg (List.flatMap f) (List.take_append_drop j l))
  rw [List.flatMap_append, List.length_append] at e
  omega
/-- What is told of a unit that is written. -/
def ToldWU (B b : Nat) (l : List UInt8) (w : World) (r : Ending) (w' : World) : Prop :=
  ∃ y : Int, r = .returned (.int .i64 y) ∧ Fw B b w w' ∧ ((y = 0 ∧ WR B b l w' ∧ l.length ≤ 60000) ∨ (y = 4 ∧ 60000 < l.length))

set_option maxRecDepth 100000 in
set_option maxHeartbeats 3200000 in
theorem wunit_any (qt : Dat → ByteArray) (B b : Nat) (nm : ByteArray) (PP : List Pro) (pa : Option Addr) (pc : Nat) (w : World) (h : WR B b [] w) (hB : B ≤ w.heap.size) (hl : PL B w pa PP) (hpc : PP.length ≤ pc) (hn1 : 1 ≤ PP.length) (hn5 : PP.length ≤ 500) (hnm : nm.size ≤ 60)
    (har : ∀ P, P ∈ PP → 0 ≤ P.args ∧ P.args ≤ 2000 ∧ 1 ≤ P.code.length ∧ P.code.length ≤ 6000) (hw : WIok qt B b PP) :
    Calls Tryz.prog 25 #[.pointer (some ⟨b, 0, none⟩), .agg #[.string nm, .slice pa PP.length pc]] w (ToldWU B b (unitB qt nm PP) w) := by
  obtain ⟨n, hnn⟩ : ∃ n, n = PP.length := ⟨_, rfl⟩
  have HN := hidd hnn
  rw [← hnn] at hpc hn1 hn5 ⊢
  clear hnn
  have HPL := hidd hl
  have HAR := hidd har
  have HWI := hidd hw
  have hbw : b < w.heap.size := LibA.IsBuffer.lt h
  have R0 : Hid (WR B b [] (w.alloc (.cells #[.string nm, .slice pa n pc] 24))) := LibA.IsBuffer.alloc h _
  have F0 := hidd ((Fw.refl B b w).alloc hB (.cells #[.string nm, .slice pa n pc] 24))
  have HU0 := hidd (World.alloc_heap_new w (.cells #[.string nm, .slice pa n pc] 24))
  have HTL := hidd (textB_len (s := nm) (by omega))
  have T0 := hidd (wtext_any B b [] nm _ R0.out (by simp; omega) (by simp) (by omega))
  clear h hl har hw R0
  generalize hW0 : w.alloc (.cells #[.string nm, .slice pa n pc] 24) = W0 at F0 HU0 T0
  go_enter Tryz.func25, Tryz.ntmps25
  go_upto_region 1 with fail
  clear hW0
  obtain ⟨ub, hub⟩ : ∃ u, u = w.heap.size := ⟨_, rfl⟩
  rw [← hub] at HU0 ⊢
  have hubb : ub ≠ b := by omega
  clear hub
  have u0 : W0.cell? ⟨ub, 0, none⟩ = some (.string nm) := (cellO HU0.out).trans rfl
  go_wp2_with fail
  refine T0.out.mono ?_
  rintro e W1 ⟨rfl, k1, k2⟩
  have HU1 := hidd (k2.block HU0.out hubb (by decide))
  have F1 := hidd (F0.out.trans k2)
  have C1 := hidd (count_any B b _ n W1 k1 (Nat.le_trans hB F1.out.1.size) (by have := HTL.out; simp; omega) (by omega) (by omega))
  clear k1 k2 T0 u0 HU0 F0
  have u1 : W1.cell? ⟨ub, 1, none⟩ = some (.slice pa n pc) := (cellO HU1.out).trans rfl
  go_wp2_with fail
  refine C1.out.mono ?_
  rintro e W2 ⟨rfl, k1, k2⟩
  have HU2 := hidd (k2.block HU1.out hubb (by decide))
  have F2 := hidd (F1.out.trans k2)
  have R2 : Hid (WR B b (textB nm ++ numB n ++ (PP.take 0).flatMap (protoB qt)) W2) := by
    unfold Hid
    simpa using k1
  have HLN := hidd (numB_len (n := n) (by omega) (by omega))
  clear k1 k2 C1 u1 HU1 F1
  have u2 : W2.cell? ⟨ub, 1, none⟩ = some (.slice pa n pc) := (cellO HU2.out).trans rfl
  have HBW : Hid (b < w.heap.size ∧ B ≤ w.heap.size) := ⟨hbw, hB⟩
  go_wp2_with fail
  clear u2
  go_loopw [21] (fun i wr => ∃ j : Nat, j ≤ n ∧ i = .int .i64 j ∧ Hid (WR B b (textB nm ++ numB n ++ (PP.take j).flatMap (protoB qt)) wr ∧ Fw B b w wr ∧ (textB nm ++ numB n ++ (PP.take j).flatMap (protoB qt)).length ≤ (if j = 0 then 100 else 60000))) (fun i _ => n - (intOf i).toNat)
  case atStart => exact ⟨0, Nat.zero_le _, rfl, R2.out, F2.out, by simp; have := HTL.out; have := HLN.out; omega⟩
  case round =>
  obtain ⟨j, hj, rfl, HR⟩ := hrel
  by_cases hlt : j < n
  · have hjP : j < PP.length := by rw [← HN.out]; exact hlt
    have hP : PP[j]? = some PP[j] := List.getElem?_eq_getElem hjP
    obtain ⟨P, hPe⟩ : ∃ P, PP[j] = P := ⟨_, rfl⟩
    rw [hPe] at hP
    clear hPe
    have HP := hidd hP
    have hPm : P ∈ PP := List.mem_of_getElem? hP
    obtain ⟨pb, po, rfl, hpb, hall⟩ := HPL.out.at hP
    obtain ⟨ca, cc, p0, p1, hcc, hcl⟩ := hall j _ hP
    obtain ⟨a1, a2, a3, a4⟩ := HAR.out P hPm
    obtain ⟨cb, co, rfl, hcb, hins⟩ : ∃ b o, ca = some ⟨b, o, none⟩ ∧ b < B ∧ ∀ i x, P.code[i]? = some x → ∃ qa qc, IL B w b (o + i * 11) x qa qc := by
      rcases hcl with h | h
      · rw [h] at a3; simp at a3
      · exact h
    have HI := hidd hins
    have q0 := (HR.out.2.1.1.cell (p := ⟨pb, po + j * 2, none⟩) hpb).trans p0
    have q1 := (HR.out.2.1.1.cell (p := ⟨pb, po + j * 2 + 1, none⟩) hpb).trans p1
    obtain ⟨cn, hcn⟩ : ∃ n, n = P.code.length := ⟨_, rfl⟩
    have HCN := hidd hcn
    rw [← hcn] at a3 a4 q1 hcc
    clear hcn p0 p1 hcl hins hall hP
    have hwr : w.heap.size ≤ wr.heap.size := HR.out.2.1.1.size
    have RA : Hid (WR B b (textB nm ++ numB n ++ (PP.take j).flatMap (protoB qt)) (wr.alloc (.cells #[.int .i64 P.args, .slice (some ⟨cb, co, none⟩) cn cc] 47))) := LibA.IsBuffer.alloc HR.out.1 _
    have FA := hidd (HR.out.2.1.alloc HBW.out.2 (.cells #[.int .i64 P.args, .slice (some ⟨cb, co, none⟩) cn cc] 47))
    have HX := hidd (World.alloc_heap_new wr (.cells #[.int .i64 P.args, .slice (some ⟨cb, co, none⟩) cn cc] 47))
    have hlen1 : (textB nm ++ numB n ++ (PP.take j).flatMap (protoB qt)).length ≤ 60000 := by
      have := HR.out.2.2
      split at this <;> omega
    have CA := hidd (count_any B b _ P.args _ RA.out (by simp; omega) (by omega) (by omega) (by omega))
    have HLa := hidd (numB_len (n := P.args) (by omega) (by omega))
    have HLc := hidd (numB_len (n := (cn : Nat)) (by omega) (by omega))
    have HLN1 := hidd hlen1
    clear RA
    go_upto_region 6 with fail
    clear q0 q1 hlen1
    generalize wr.alloc (.cells #[.int .i64 P.args, .slice (some ⟨cb, co, none⟩) cn cc] 47) = V0 at FA HX CA ⊢
    obtain ⟨xb, hxb⟩ : ∃ u, u = wr.heap.size := ⟨_, rfl⟩
    rw [← hxb] at HX ⊢
    have hxbb : xb ≠ b := by omega
    clear hxb
    have x0 : V0.cell? ⟨xb, 0, none⟩ = some (.int .i64 P.args) := (cellO HX.out).trans rfl
    have HLW : Hid (w.heap.size ≤ wr.heap.size) := hwr
    go_wp2_with fail
    refine CA.out.mono ?_
    rintro e V1 ⟨rfl, k1, k2⟩
    have HX1 := hidd (k2.block HX.out hxbb (by decide))
    have FB := hidd (FA.out.trans k2)
    have CB := hidd (count_any B b _ (cn : Nat) V1 k1 (Nat.le_trans hB FB.out.1.size) (by rw [List.length_append]; have := HLN1.out; have := HLa.out; omega) (by omega) (by omega))
    clear k1 k2 CA HX FA x0
    have x1 : V1.cell? ⟨xb, 1, none⟩ = some (.slice (some ⟨cb, co, none⟩) cn cc) := (cellO HX1.out).trans rfl
    go_wp2_with fail
    refine CB.out.mono ?_
    rintro e V2 ⟨rfl, k1, k2⟩
    have HX2 := hidd (k2.block HX1.out hxbb (by decide))
    have FC := hidd (FB.out.trans k2)
    obtain ⟨L0, hL0⟩ : ∃ L, L = textB nm ++ numB n ++ (PP.take j).flatMap (protoB qt) ++ numB P.args ++ numB (cn : Nat) := ⟨_, rfl⟩
    rw [← hL0] at k1
    have HL0 := hidd hL0
    have hL0l : L0.length ≤ 60016 := by
      rw [hL0]
      have := HLN1.out
      simp only [List.length_append] at this ⊢
      have := HLa.out
      have := HLc.out
      omega
    have RC : Hid (WR B b (L0 ++ (P.code.take 0).flatMap (insB qt)) V2) := by
      unfold Hid
      simpa using k1
    have HL0l := hidd hL0l
    clear k1 k2 CB HX1 FB x1 hL0 hL0l
    have x2 : V2.cell? ⟨xb, 1, none⟩ = some (.slice (some ⟨cb, co, none⟩) cn cc) := (cellO HX2.out).trans rfl
    go_wp2_with fail
    clear x2
    go_loopw [37] (fun i wz => ∃ k : Nat, k ≤ cn ∧ i = .int .i64 k ∧ Hid (WR B b (L0 ++ (P.code.take k).flatMap (insB qt)) wz ∧ Fw B b w wz ∧ wz.heap[xb]? = some (.cells #[.int .i64 P.args, .slice (some ⟨cb, co, none⟩) cn cc] 47 (0, 0)) ∧ (k ≠ 0 → (L0 ++ (P.code.take k).flatMap (insB qt)).length ≤ 60000))) (fun i _ => cn - (intOf i).toNat)
    case atStart => exact ⟨0, Nat.zero_le _, rfl, RC.out, FC.out, HX2.out, fun h => absurd rfl h⟩
    case round =>
    obtain ⟨k, hk, rfl, HK⟩ := hrel
    by_cases hkl : k < cn
    · have hkc : k < P.code.length := by rw [← HCN.out]; exact hkl
      have hx : P.code[k]? = some P.code[k] := List.getElem?_eq_getElem hkc
      obtain ⟨x, hxe⟩ : ∃ x, P.code[k] = x := ⟨_, rfl⟩
      rw [hxe] at hx
      clear hxe
      obtain ⟨qa, qc, hil⟩ := HI.out k x hx
      have hlk : (L0 ++ (P.code.take k).flatMap (insB qt)).length ≤ 100000 := by
        by_cases e : k = 0
        · subst e; simp; have := HL0l.out; omega
        · have := HK.out.2.2.2 e; omega
      rename_i wz _
      have WI := hidd (HWI.out P hPm x (List.mem_of_getElem? hx) cb (co + k * 11) qa qc _ _ (hil.below hcb HK.out.2.1.1) hcb HK.out.1 (Nat.le_trans hB HK.out.2.1.1.size) hlk)
      have x3 := (cellO (q := 1) HK.out.2.2.1).trans (show (#[.int .i64 P.args, .slice (some ⟨cb, co, none⟩) cn cc] : Array Value)[1]? = some (.slice (some ⟨cb, co, none⟩) cn cc) from rfl)
      have HM := hidd (flat_more (f := insB qt) hx)
      clear hil hx hlk
      go_wp2_with fail
      refine WI.out.mono ?_
      rintro e w1 ⟨rfl, k1, k2⟩
      have HX3 := hidd (k2.block HK.out.2.2.1 hxbb (by decide))
      have FD := hidd (HK.out.2.1.trans k2)
      have EQ : Hid (L0 ++ (P.code.take k).flatMap (insB qt) ++ insB qt x = L0 ++ (P.code.take (k + 1)).flatMap (insB qt)) := by
        unfold Hid
        rw [HM.out, List.append_assoc]
      rw [EQ.out] at k1 ⊢
      have RD := hidd k1
      clear k1 k2 WI x3
      by_cases hle : (L0 ++ (P.code.take (k + 1)).flatMap (insB qt)).length ≤ 60000
      · rw [if_pos hle]
        have HLE := hidd hle
        clear hle
        go_wp2_with fail
        go_roundw
        case rel => exact ⟨k + 1, by omega, by go_num, RD.out, FD.out, HX3.out, fun _ => HLE.out⟩
        case measure => simp [intOf]; omega
      · rw [if_neg hle]
        have HLE := hidd hle
        clear hle
        go_wp2_with fail
        go_ret
        refine ⟨4, rfl, FD.out, Or.inr ⟨rfl, ?_⟩⟩
        have g1 := flat_le (f := insB qt) P.code (k + 1)
        have g2 := flat_le (f := protoB qt) PP (j + 1)
        rw [flat_more (f := protoB qt) HP.out] at g2
        have g3 := HLE.out
        rw [HL0.out] at g3
        unfold unitB
        rw [← HN.out]
        simp only [List.length_append] at g1 g2 g3 ⊢
        have g4 : (protoB qt P).length = (numB P.args).length + (numB (cn : Nat)).length + (P.code.flatMap (insB qt)).length := by
          unfold protoB
          rw [← HCN.out]
          simp only [List.length_append]
        omega
    · obtain rfl : k = cn := by omega
      have HE : Hid (L0 ++ (P.code.take k).flatMap (insB qt) = textB nm ++ numB n ++ (PP.take (j + 1)).flatMap (protoB qt)) := by
        unfold Hid
        have e1 : P.code.take k = P.code := List.take_of_length_le (by rw [HCN.out]; exact Nat.le_refl _)
        rw [HL0.out, flat_more (f := protoB qt) HP.out, e1]
        have e2 : protoB qt P = numB P.args ++ numB (k : Nat) ++ P.code.flatMap (insB qt) := by unfold protoB; rw [← HCN.out]
        rw [e2]
        simp only [List.append_assoc]
      have hle := HK.out.2.2.2 (by omega)
      have HK1 := hidd HK.out.1
      rw [HE.out] at HK1 hle
      have HLE := hidd hle
      have HK2 := hidd HK.out.2.1
      clear hle HK
      go_wp2_with fail
      go_roundw
      case rel => exact ⟨j + 1, by omega, by go_num, HK1.out, HK2.out, by rw [if_neg (by omega)]; exact HLE.out⟩
      case measure => simp [intOf]; omega
  · obtain rfl : j = n := by omega
    have HE : Hid (textB nm ++ numB j ++ (PP.take j).flatMap (protoB qt) = unitB qt nm PP) := by
      unfold Hid unitB
      rw [List.take_of_length_le (by rw [HN.out]; exact Nat.le_refl _), ← HN.out]
    have hle := HR.out.2.2
    have HR1 := hidd HR.out.1
    rw [HE.out, if_neg (by omega)] at hle
    rw [HE.out] at HR1
    have HLE := hidd hle
    have HR2 := hidd HR.out.2.1
    clear hle HR
    go_wp2_with fail
    go_ret
    exact ⟨0, rfl, HR2.out, Or.inl ⟨rfl, HR1.out, HLE.out⟩⟩
end
section
set_option linter.unusedVariables false
set_option linter.unusedSimpArgs false
open Go.RowKit

/-- Bytes that lie in memory. -/
def ByL (w : World) (a : Option Addr) (l : List UInt8) : Prop := l = [] ∨ ∃ g o, a = some ⟨g, o, none⟩ ∧ g < w.heap.size ∧ ∀ (i : Nat) (c : UInt8), l[i]? = some c → w.cell? ⟨g, o + i, none⟩ = some (.int .u8 ((c.toNat : Nat) : Int))
theorem ByL.keep {w w' : World} {a : Option Addr} {l : List UInt8} (h : ByL w a l) (hb : Below w.heap.size w w') : ByL w' a l := by
  rcases h with h | ⟨g, o, ha, hg, h⟩
  · exact Or.inl h
  · exact Or.inr ⟨g, o, ha, Nat.lt_of_lt_of_le hg hb.size, fun i c hc => (hb.cell (p := ⟨g, o + i, none⟩) hg).trans (h i c hc)⟩
set_option maxRecDepth 100000 in
set_option maxHeartbeats 1600000 in
theorem BufBytes_any (B b : Nat) (l : List UInt8) (w : World) (h : WR B b l w) :
    Calls Tryz.prog 26 #[.pointer (some ⟨b, 0, none⟩)] w fun r w' => (∃ a cap, r = .returned (.slice a l.length cap) ∧ l.length ≤ cap ∧ cap ≤ maxLen ∧ ByL w a l) ∧ Below w.heap.size w w' := by
  obtain ⟨hB, lr, hc⟩ := LibA.IsBuffer.cases h
  rcases hc with ⟨hnil, hbk⟩ | ⟨g, cap, cur, hbk, hBg, hg, hnc, hcm, hcs, htk, hgb⟩
  · have hl : l = [] := by simpa [Lib.byteCells] using hnil
    subst hl
    have c0 : w.cell? ⟨b, 0, none⟩ = some (.slice none 0 0) := hbk.c0
    have c1 : w.cell? ⟨b, 1, none⟩ = some (.int .i64 0) := hbk.c1
    clear hbk hnil h
    go_enter Tryz.func26, Tryz.ntmps26
    go_wp2_with fail
    go_region
    all_goals
      go_wp2_with fail
      go_ret
      exact ⟨⟨none, 0, rfl, Nat.le_refl _, by decide, Or.inl rfl⟩, Below.drew (Below.refl _ _)⟩
  · rw [Lib.byteCells_length] at hbk hnc htk
    have c0 : w.cell? ⟨b, 0, none⟩ = some (.slice (some ⟨g, 0, none⟩) l.length cap) := hbk.c0
    have c1 : w.cell? ⟨b, 1, none⟩ = some (.int .i64 0) := hbk.c1
    have HBY : Hid (ByL w (some ⟨g, 0, none⟩) l) := by
      refine Or.inr ⟨g, 0, rfl, (Array.getElem?_eq_some_iff.1 hg).1, fun i c hc => ?_⟩
      have hi : i < l.length := (List.getElem?_eq_some_iff.1 hc).1
      have e : cur.toList[i]? = some (.int .u8 ((c.toNat : Nat) : Int)) := by
        have e2 : (cur.toList.take l.length)[i]? = cur.toList[i]? := List.getElem?_take_of_lt hi
        rw [← e2, htk]
        simp [Lib.byteCells, hc]
      rw [Nat.zero_add]
      simp only [World.cell?, hg]
      simpa using e
    have HCM := hidd hcm
    have hcm2 : cap ≤ 9223372036854775807 := by unfold maxLen at hcm; omega
    clear hbk hg htk hcs h hcm
    generalize l.length = ln at *
    go_enter Tryz.func26, Tryz.ntmps26
    go_wp2_with fail
    go_region
    all_goals
      go_wp2_with fail
      go_ret
      exact ⟨⟨_, _, rfl, hnc, HCM.out, HBY.out⟩, Below.drew (Below.refl _ _)⟩
/-- WHAT Bytes TELLS. -/
def bytesU (qt : Dat → ByteArray) (nm : ByteArray) (PP : List Pro) : Int × List UInt8 := if wrongU nm PP = 0 then (if (unitB qt nm PP).length ≤ 60000 then (0, unitB qt nm PP) else (4, [])) else (wrongU nm PP, [])
theorem right_parts {nm : ByteArray} {PP : List Pro} (h : wrongU nm PP = 0) : nm.size ≤ 60 ∧ 1 ≤ PP.length ∧ PP.length ≤ 500 ∧ wrongPs PP [0] nameW = 0 ∧ ∀ P, P ∈ PP → 0 ≤ P.args ∧ P.args ≤ 2000 ∧ 1 ≤ P.code.length ∧ P.code.length ≤ 6000 := by
  unfold wrongU at h
  split at h
  · omega
  · rename_i hp
    split at h
    · omega
    · have hs : sizesW PP = 0 := by
        unfold wrongPs at h
        by_cases e : sizesW PP = 0
        · exact e
        · rw [if_pos e] at h; exact absurd h e
      refine ⟨?_, by omega, by omega, h, sizesW_all hs⟩
      simp [plainB] at hp
      exact hp.1
def ToldBy (r : Int × List UInt8) (w : World) (e : Ending) (w' : World) : Prop := ∃ a cap, e = .returned (.tuple #[.slice a r.2.length cap, .int .i64 r.1]) ∧ r.2.length ≤ cap ∧ cap ≤ maxLen ∧ ByL w' a r.2 ∧ Below w.heap.size w w'

set_option maxRecDepth 100000 in
set_option maxHeartbeats 3200000 in
theorem Bytes_any (qt : Dat → ByteArray) (nm : ByteArray) (PP : List Pro) (pa : Option Addr) (pc : Nat) (w : World) (hnm : nm.size ≤ maxLen) (hl : PL w.heap.size w pa PP) (hpc : PP.length ≤ pc) (hmax : PP.length ≤ 9223372036854775807) (htab : TabS w) (hw : wrongU nm PP = 0 → ∀ B b, WIok qt B b PP) :
    Calls Tryz.prog 9 #[.agg #[.string nm, .slice pa PP.length pc]] w (ToldBy (bytesU qt nm PP) w) := by
  have ba : Below w.heap.size w (w.alloc (.cells #[.string nm, .slice pa PP.length pc] 24)) := (Below.refl _ _).alloc (Nat.le_refl _) _
  have HU0 := hidd (World.alloc_heap_new w (.cells #[.string nm, .slice pa PP.length pc] 24))
  have WU := hidd (WrongU_any nm PP pa pc (w.alloc (.cells #[.string nm, .slice pa PP.length pc] 24)) hnm ((hl.below ba).mono (by simp)) hpc hmax (htab.below ba))
  have HPL := hidd hl
  have HW := hidd hw
  have HA := hidd ba
  obtain ⟨rs, hrs⟩ : ∃ r, r = bytesU qt nm PP := ⟨_, rfl⟩
  rw [← hrs]
  unfold bytesU at hrs
  have HRS := hidd hrs
  clear hrs hnm htab hl ba hw
  have HRP : Hid (wrongU nm PP = 0 → nm.size ≤ 60 ∧ 1 ≤ PP.length ∧ PP.length ≤ 500 ∧ wrongPs PP [0] nameW = 0 ∧ ∀ P, P ∈ PP → 0 ≤ P.args ∧ P.args ≤ 2000 ∧ 1 ≤ P.code.length ∧ P.code.length ≤ 6000) := right_parts
  generalize wrongU nm PP = y at WU HW HRS HRP
  have hlt : w.heap.size < (w.alloc (.cells #[.string nm, .slice pa PP.length pc] 24)).heap.size := by simp
  have u0 : (w.alloc (.cells #[.string nm, .slice pa PP.length pc] 24)).cell? ⟨w.heap.size, 0, none⟩ = some (.string nm) := (cellO HU0.out).trans rfl
  have u1 : (w.alloc (.cells #[.string nm, .slice pa PP.length pc] 24)).cell? ⟨w.heap.size, 1, none⟩ = some (.slice pa PP.length pc) := (cellO HU0.out).trans rfl
  go_enter Tryz.func9, Tryz.ntmps9
  go_upto_region 1 with fail
  generalize w.alloc (.cells #[.string nm, .slice pa PP.length pc] 24) = V0 at HU0 WU HA hlt u0 u1 ⊢
  obtain ⟨ub, hub⟩ : ∃ u, u = w.heap.size := ⟨_, rfl⟩
  rw [← hub] at HU0 hlt u0 u1 ⊢
  have HUB := hidd hub
  clear hub
  go_wp2_with fail
  refine WU.out.mono ?_
  rintro e w1 ⟨rfl, hb1⟩
  have HB1 := hidd (HA.out.trans (hb1.mono HA.out.size))
  have HU1 := hidd ((hb1.block _ hlt).trans HU0.out)
  clear hb1 WU u0 u1 HU0
  by_cases y0 : y = 0
  case neg =>
    have y0' : (y != 0) = true := by simpa using y0
    have hre := HRS.out
    rw [if_neg y0] at hre
    subst hre
    clear HRS HW HRP
    go_wp2_with fail
    go_ret2
    exact ⟨none, 0, rfl, Nat.le_refl _, by decide, Or.inl rfl, HB1.out⟩
  subst y0
  have hre := HRS.out
  rw [if_pos rfl] at hre
  have HRS2 := hidd hre
  obtain ⟨r1, r2, r3, _, r5⟩ := HRP.out (by trivial)
  clear hre HRS HRP
  have bz : Below w1.heap.size w1 (w1.alloc (.cells #[.slice none 0 0, .int .i64 0, .int .i8 0] 65)) := (Below.refl _ _).alloc (Nat.le_refl _) _
  have HB2 := hidd (HB1.out.trans (bz.mono HB1.out.size))
  have HU2 := hidd ((bz.block _ (Array.getElem?_eq_some_iff.1 HU1.out).1).trans HU1.out)
  have R0 : Hid (WR w1.heap.size w1.heap.size [] (w1.alloc (.cells #[.slice none 0 0, .int .i64 0, .int .i8 0] 65))) := LibA.zero_isBuffer (Nat.le_refl _) (LibA.three_whole (World.alloc_heap_new w1 (.cells #[.slice none 0 0, .int .i64 0, .int .i8 0] 65)))
  have WA := hidd (wunit_any qt w1.heap.size w1.heap.size nm PP pa pc _ R0.out (by simp) ((HPL.out.below HB2.out).mono (by rw [← HUB.out]; have := (Array.getElem?_eq_some_iff.1 HU1.out).1; omega)) hpc r2 r3 r1 r5 (HW.out (by trivial) _ _))
  have u0 : (w1.alloc (.cells #[.slice none 0 0, .int .i64 0, .int .i8 0] 65)).cell? ⟨ub, 0, none⟩ = some (.string nm) := (cellO HU2.out).trans rfl
  have u1 : (w1.alloc (.cells #[.slice none 0 0, .int .i64 0, .int .i8 0] 65)).cell? ⟨ub, 1, none⟩ = some (.slice pa PP.length pc) := (cellO HU2.out).trans rfl
  have hs1 : w1.heap.size < (w1.alloc (.cells #[.slice none 0 0, .int .i64 0, .int .i8 0] 65)).heap.size := by simp
  clear bz R0 HW HU1 r1 r2 r3 r5
  go_upto_region 5 with fail
  generalize w1.alloc (.cells #[.slice none 0 0, .int .i64 0, .int .i8 0] 65) = V2 at HB2 HU2 WA u0 u1 hs1 ⊢
  obtain ⟨wb, hwb⟩ : ∃ u, u = w1.heap.size := ⟨_, rfl⟩
  have hwsz : w.heap.size ≤ wb := by rw [hwb]; exact HB1.out.size
  have HWS := hidd hwsz
  rw [← hwb] at WA hs1 ⊢
  clear hwb hwsz HB1
  go_wp2_with fail
  refine WA.out.mono ?_
  rintro e w3 ⟨y, rfl, hf, hor⟩
  have HB3 := hidd (HB2.out.trans (hf.1.mono HWS.out))
  clear hf WA u0 u1
  rcases hor with ⟨rfl, hwr, hle⟩ | ⟨rfl, hgt⟩
  · have hre := HRS2.out
    rw [if_pos hle] at hre
    have BB := hidd (BufBytes_any _ _ _ _ hwr)
    clear hwr hle HRS2
    generalize unitB qt nm PP = ul at hre BB
    subst hre
    go_wp2_with fail
    refine BB.out.mono ?_
    rintro e w4 ⟨⟨a, cap, rfl, q1, q2, q3⟩, hb4⟩
    have HE := hidd (And.intro q1 (And.intro q2 (And.intro (q3.keep hb4) (HB3.out.trans (hb4.mono HB3.out.size)))))
    clear q1 q2 q3 hb4 BB
    go_wp2_with fail
    go_ret2
    exact ⟨a, cap, rfl, HE.out.1, HE.out.2.1, HE.out.2.2.1, HE.out.2.2.2⟩
  · have hre := HRS2.out
    rw [if_neg (by omega)] at hre
    subst hre
    clear HRS2 hgt
    go_wp2_with fail
    go_ret2
    exact ⟨none, 0, rfl, Nat.le_refl _, by decide, Or.inl rfl, HB3.out⟩
end
end Go.Proofs.YtfmanhkeclogfaaGreatDoor
