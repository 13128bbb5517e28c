/- Chapter 9: the writer. Chapter 9: the writer: counts, texts, instructions. -/
import Derived.Test.YtfmanhkeclogfaaGreatDoorK24
import Derived.Test.YtfmanhkeclogfaaGreatDoorK25
import Derived.Test.YtfmanhkeclogfaaGreatDoorK33
namespace Go.Proofs.YtfmanhkeclogfaaGreatDoor
section
set_option linter.unusedVariables false
set_option linter.unusedSimpArgs false
open Go.RowKit

/-- The writer in block b has written these bytes. -/
def WR (B b : Nat) (l : List UInt8) (w : World) : Prop := LibA.IsBuffer 65 (fun _ => none) 5 B b 0 (Lib.byteCells l) w
/-- What a writer's call changes. -/
def Fw (B b : Nat) (w w' : World) : Prop := Below B w w' ∧ Lib.OthersKept 5 (some b) w w'
theorem Fw.refl (B b : Nat) (w : World) : Fw B b w w := ⟨Below.refl _ _, Lib.OthersKept.refl _ _ _⟩
theorem Fw.trans {B b : Nat} {w w' w'' : World} (h : Fw B b w w') (k : Fw B b w' w'') : Fw B b w w'' := ⟨h.1.trans k.1, h.2.trans k.2⟩
theorem vb_len : ∀ (k u : Nat), u < 128 ^ (k + 1) → (vb u).length ≤ k + 1
  | 0, u, h => by rw [vb_small (by simpa using h)]; simp
  | k + 1, u, h => by
    by_cases hs : u < 128
    · rw [vb_small hs]; simp
    · rw [vb_big hs, List.length_cons]
      have := vb_len k (u / 128) (Nat.div_lt_of_lt_mul (by rw [Nat.pow_succ, Nat.mul_comm] at h; exact h))
      omega
theorem numB_len {n : Int} (h1 : -1000000000000000 ≤ n) (h2 : n ≤ 1000000000000000) : (numB n).length ≤ 8 :=
  vb_len 7 _ (Nat.lt_of_le_of_lt (zz_le h1 h2) (by decide))
theorem bc_app (a b : List UInt8) : Lib.byteCells (a ++ b) = Lib.byteCells a ++ Lib.byteCells b := by simp [Lib.byteCells]
theorem bc_len (a : List UInt8) : (Lib.byteCells a).length = a.length := by simp [Lib.byteCells]
theorem bc_one (n : Nat) (h : n < 256) : Lib.byteCells [UInt8.ofNat n] = [.int .u8 (n : Nat)] := by
  simp [Lib.byteCells, UInt8.toNat_ofNat', Nat.mod_eq_of_lt h]
theorem WByte {B b : Nat} {l : List UInt8} {w : World} (h : WR B b l w) (hB : B ≤ w.heap.size) (hl : l.length ≤ 1000000000000) (n : Nat) (hn : n < 256) :
    Calls Tryz.prog 117 #[.pointer (some ⟨b, 0, none⟩), .int .u8 (n : Nat)] w fun e w' => e = .returned .nilIface ∧ WR B b (l ++ [UInt8.ofNat n]) w' ∧ Fw B b w w' := by
  refine (Tryz.Buffer_WriteByte_at 65 _ B b 0 _ (n : Nat) w h hB (Lib.byteCells_one _) (by rw [bc_len]; omega)).mono ?_
  rintro e w' ⟨h1, h2, h3, h4⟩
  refine ⟨h1, ?_, h3, h4⟩
  unfold WR
  rw [bc_app, bc_one n hn]
  exact h2
theorem WText {B b : Nat} {l : List UInt8} {w : World} (h : WR B b l w) (hB : B ≤ w.heap.size) (hl : l.length ≤ 1000000000000) (s : ByteArray) (hs : s.size ≤ 1000000000000) :
    Calls Tryz.prog 85 #[.pointer (some ⟨b, 0, none⟩), .string s] w fun e w' => e = .returned (.tuple #[.int .i64 s.size, .nilIface]) ∧ WR B b (l ++ s.data.toList) w' ∧ Fw B b w w' := by
  refine (Tryz.Buffer_WriteString_at 65 _ B b 0 _ s w h hB (Lib.byteCells_one _) (by rw [bc_len]; omega)).mono ?_
  rintro e w' ⟨h1, h2, h3, h4⟩
  refine ⟨h1, ?_, h3, h4⟩
  unfold WR
  rw [bc_app]
  exact h2

set_option maxRecDepth 100000 in
set_option maxHeartbeats 1600000 in
theorem number_any (B b : Nat) (l : List UInt8) (n : Int) (w : World) (h : WR B b l w) (hB : B ≤ w.heap.size) (hl : l.length ≤ 1000000000) (h1 : -1000000000000000 ≤ n) (h2 : n ≤ 1000000000000000) :
    Calls Tryz.prog 86 #[.pointer (some ⟨b, 0, none⟩), .int .i64 n] w fun r w' => r = .returned (.tuple #[]) ∧ WR B b (l ++ numB n) w' ∧ Fw B b w w' := by
  have HZ := hidd (zz_eq h1 h2)
  have HW := hidd h
  have hz := zz_le h1 h2
  have HLn := hidd (numB_len h1 h2)
  have HNB : Hid ([] ++ vb (zz n) = numB n) := rfl
  clear h h1 h2
  go_enter Tryz.func86, Tryz.ntmps86
  go_wp2_with fail
  rw [HZ.out]
  clear HZ
  generalize zz n = z at hz HNB
  go_loopw [4] (fun x wr => ∃ (u : Nat) (pre : List UInt8), x = .int .u64 u ∧ u ≤ 2000000000000000 ∧ Hid (WR B b (l ++ pre) wr ∧ Fw B b w wr ∧ pre ++ vb u = numB n)) (fun x _ => (intOf x).toNat)
  case atStart => exact ⟨z, [], rfl, hz, by rw [List.append_nil]; exact HW.out, Fw.refl _ _ _, HNB.out⟩
  case round =>
    obtain ⟨u, pre, rfl, hu, HR⟩ := hrel
    have hpl : pre.length ≤ 8 := by
      have := HLn.out
      rw [← HR.out.2.2, List.length_append] at this
      omega
    have hBr : B ≤ wr.heap.size := Nat.le_trans hB HR.out.2.1.1.size
    by_cases hs : u < 128
    · have WB := hidd (WByte HR.out.1 hBr (by rw [List.length_append]; omega) u (by omega))
      have hge : ¬ (128 : Int) ≤ u := by omega
      have hm : (u : Int) % 256 = u := by omega
      have HE : Hid (pre ++ [UInt8.ofNat u] = numB n) := by
        have := HR.out.2.2
        rw [vb_small hs] at this
        exact this
      go_wp2_with fail
      refine WB.out.mono ?_
      rintro e w2 ⟨rfl, k1, k2⟩
      have K1 := hidd k1
      have K2 := hidd (HR.out.2.1.trans k2)
      clear k1 k2
      go_wp2_with fail
      go_end0
      refine ⟨rfl, ?_, K2.out⟩
      rw [← HE.out, ← List.append_assoc]
      exact K1.out
    · have ho : bits .or .u8 ((u : Int) % 256) 128 = ((u % 128 + 128 : Nat) : Int) := by
        have := or_more u
        rwa [show ((u % 256 : Nat) : Int) = (u : Int) % 256 by omega] at this
      obtain ⟨m, hm⟩ : ∃ m, m = u % 128 + 128 := ⟨_, rfl⟩
      have hm2 : m < 256 := by omega
      have WB := hidd (WByte HR.out.1 hBr (by rw [List.length_append]; omega) m hm2)
      have hge : (128 : Int) ≤ u := by omega
      have HE : Hid ((pre ++ [UInt8.ofNat (u % 128 + 128)]) ++ vb (u / 128) = numB n) := by
        have := HR.out.2.2
        rw [vb_big hs] at this
        rw [List.append_assoc]
        exact this
      rw [← hm] at ho HE
      clear hm
      go_wp2_with fail
      refine WB.out.mono ?_
      rintro e w2 ⟨rfl, k1, k2⟩
      have K1 := hidd k1
      have K2 := hidd (HR.out.2.1.trans k2)
      clear k1 k2
      go_wp2_with fail
      go_roundw
      case rel => exact ⟨u / 128, pre ++ [UInt8.ofNat m], by go_num, by omega, by rw [← List.append_assoc]; exact K1.out, K2.out, HE.out⟩
      case measure => simp [intOf]; omega
end
section
set_option linter.unusedVariables false
set_option linter.unusedSimpArgs false
open Go.RowKit

set_option maxHeartbeats 800000 in
theorem count_any (B b : Nat) (l : List UInt8) (n : Int) (w : World) (h : WR B b l w) (hB : B ≤ w.heap.size) (hl : l.length ≤ 1000000000) (h1 : -1000000000000000 ≤ n) (h2 : n ≤ 1000000000000000) :
    Calls Tryz.prog 57 #[.pointer (some ⟨b, 0, none⟩), .int .i64 n] w fun r w' => r = .returned (.tuple #[]) ∧ WR B b (l ++ numB n) w' ∧ Fw B b w w' := by
  have N := hidd (number_any B b l n w h hB hl h1 h2)
  clear h
  go_enter Tryz.func57, Tryz.ntmps57
  go_wp2_with fail
  refine N.out.mono ?_
  rintro e w2 ⟨rfl, k1, k2⟩
  have K1 := hidd k1
  have K2 := hidd k2
  clear k1 k2
  go_wp2_with fail
  go_end0
  exact ⟨rfl, K1.out, K2.out⟩
set_option maxHeartbeats 800000 in
theorem wtext_any (B b : Nat) (l : List UInt8) (s : ByteArray) (w : World) (h : WR B b l w) (hB : B ≤ w.heap.size) (hl : l.length ≤ 1000000) (hs : s.size ≤ 1000000) :
    Calls Tryz.prog 56 #[.pointer (some ⟨b, 0, none⟩), .string s] w fun r w' => r = .returned (.tuple #[]) ∧ WR B b (l ++ textB s) w' ∧ Fw B b w w' := by
  have N := hidd (count_any B b l s.size w h hB (by omega) (by omega) (by omega))
  have HL := hidd (numB_len (n := s.size) (by omega) (by omega))
  clear h
  go_enter Tryz.func56, Tryz.ntmps56
  go_wp2_with fail
  refine N.out.mono ?_
  rintro e w2 ⟨rfl, k1, k2⟩
  have T := hidd (WText k1 (Nat.le_trans hB k2.1.size) (by rw [List.length_append]; have := HL.out; omega) s (by omega))
  have K2 := hidd k2
  clear k1 k2 N
  go_wp2_with fail
  refine T.out.mono ?_
  rintro e w3 ⟨rfl, k3, k4⟩
  have K3 := hidd k3
  have K4 := hidd (K2.out.trans k4)
  clear k3 k4 K2 T
  go_wp2_with fail
  go_end0
  refine ⟨rfl, ?_, K4.out⟩
  unfold textB
  rw [← List.append_assoc]
  exact K3.out
set_option maxHeartbeats 800000 in
theorem layoutOf_any (op : Int) (w : World) : Calls Tryz.prog 87 #[.int .i64 op] w fun r w' => r = .returned (.int .i64 (layW op)) ∧ w' = w := by
  by_cases c1 : op < 1
  · rw [show layW op = 0 by unfold layW; rw [if_neg (by omega), if_neg (by omega), if_neg (by omega), if_neg (by omega), if_neg (by omega), if_neg (by omega)]]
    go_enter Tryz.func87, Tryz.ntmps87
    go_wp2_with fail
    go_ret
    exact ⟨rfl, rfl⟩
  by_cases c2 : 15 < op
  · rw [show layW op = 0 by unfold layW; rw [if_neg (by omega), if_neg (by omega), if_neg (by omega), if_neg (by omega), if_neg (by omega), if_neg (by omega)]]
    go_enter Tryz.func87, Tryz.ntmps87
    go_wp2_with fail
    go_ret
    exact ⟨rfl, rfl⟩
  have kk : op = 1 ∨ op = 2 ∨ op = 3 ∨ op = 4 ∨ op = 5 ∨ op = 6 ∨ op = 7 ∨ op = 8 ∨ op = 9 ∨ op = 10 ∨ op = 11 ∨ op = 12 ∨ op = 13 ∨ op = 14 ∨ op = 15 := by omega
  clear c1 c2
  rcases kk with rfl | rfl | rfl | rfl | rfl | rfl | rfl | rfl | rfl | rfl | rfl | rfl | rfl | rfl | rfl <;>
  · go_enter Tryz.func87, Tryz.ntmps87
    go_wp2_with fail
    go_ret
    exact ⟨rfl, rfl⟩
/-- An instruction's bytes; what it quotes is written so. -/
def insB (qt : Dat → ByteArray) (x : In) : List UInt8 := numB x.op ++ (if layW x.op = 2 then numB x.n else if layW x.op = 3 then textB (qt x.quote) else if layW x.op = 4 then textB x.lib ++ textB x.own else if layW x.op = 5 then textB x.own else if layW x.op = 6 then numB x.a else [])
/-- Fields that are short enough to be written. -/
def IsOk (x : In) : Prop := (1 ≤ x.op ∧ x.op ≤ 15) ∧ (layW x.op = 2 → -1000000000000000 ≤ x.n ∧ x.n ≤ 1000000000000000) ∧ (layW x.op = 6 → -1000000000000000 ≤ x.a ∧ x.a ≤ 1000000000000000) ∧ (layW x.op = 4 → x.lib.size ≤ 100) ∧ (layW x.op = 4 ∨ layW x.op = 5 → x.own.size ≤ 100)
theorem textB_len {s : ByteArray} (h : s.size ≤ 100000) : (textB s).length ≤ 8 + s.size := by
  unfold textB
  rw [List.length_append]
  have := numB_len (n := s.size) (by omega) (by omega)
  have e : s.data.toList.length = s.size := by simp
  omega
theorem drewN_heap (w : World) (n : Nat) : (w.drewN n).heap = w.heap := rfl
/-- What is told of an instruction that is written. -/
def ToldWI (qt : Dat → ByteArray) (B b : Nat) (l : List UInt8) (x : In) (w : World) (r : Ending) (w' : World) : Prop :=
  r = .returned (.int .i64 (if (l ++ insB qt x).length ≤ 60000 then 0 else 4)) ∧ WR B b (l ++ insB qt x) w' ∧ Fw B b w w'
theorem endW {qt : Dat → ByteArray} {B b : Nat} {l l' : List UInt8} {x : In} {w w1 : World} {ln nd : Nat} {y : Int} (h1 : WR B b l' w1) (h2 : Fw B b w w1) (h3 : ln = l'.length) (h4 : l' = l ++ insB qt x) (h5 : (ln ≤ 60000 ∧ y = 0) ∨ (¬ ln ≤ 60000 ∧ y = 4)) : ToldWI qt B b l x w (.returned (.int .i64 y)) (w1.drewN nd) := by
  subst h4
  refine ⟨?_, ?_, ?_, ?_⟩
  · rw [← h3]
    rcases h5 with ⟨a, rfl⟩ | ⟨a, rfl⟩
    · rw [if_pos a]
    · rw [if_neg a]
  · exact LibA.IsBuffer.drewN h1 nd
  · exact h2.1.trans ⟨rfl, rfl, rfl, by rw [drewN_heap]; exact Nat.le_refl _, fun k hk => by rw [drewN_heap]⟩
  · intro k o hk a c
    rw [drewN_heap]
    exact h2.2 k o hk a c
set_option maxRecDepth 100000 in
set_option maxHeartbeats 1600000 in
theorem ins_w1 (qt : Dat → ByteArray) (B b ib io : Nat) (l : List UInt8) (x : In) (w : World) (h : WR B b l w) (hB : B ≤ w.heap.size) (hib : ib < B) (hl : l.length ≤ 100000) (hx : IsOk x) (hla : layW x.op = 1) (c0 : w.cell? ⟨ib, io, none⟩ = some (.int .i64 x.op)) (c1 : w.cell? ⟨ib, io + 1, none⟩ = some (.int .i64 x.a)) (c2 : w.cell? ⟨ib, io + 2, none⟩ = some (.int .i64 x.n)) (c3 : w.cell? ⟨ib, io + 3, none⟩ = some (.string x.lib)) (c4 : w.cell? ⟨ib, io + 4, none⟩ = some (.string x.own)) :
    Calls Tryz.prog 58 #[.pointer (some ⟨b, 0, none⟩), .pointer (some ⟨ib, io, none⟩)] w (ToldWI qt B b l x w) := by
  obtain ⟨⟨o1, o2⟩, b1, b2, b3, b4⟩ := hx
  have LY := hidd (fun w => layoutOf_any x.op w)
  rw [hla] at LY b1 b2 b3 b4
  have HB1 := hidd b1
  have HB2 := hidd b2
  have HB3 := hidd b3
  have HB4 := hidd b4
  clear b1 b2 b3 b4
  have CO := hidd (count_any B b l x.op w h hB (by omega) (by omega) (by omega))
  have HLo := hidd (numB_len (n := x.op) (by omega) (by omega))
  have CELL : Hid (∀ w1, Fw B b w w1 → ∀ q v, w.cell? ⟨ib, q, none⟩ = some v → w1.cell? ⟨ib, q, none⟩ = some v) := fun w1 hf q v hv => (hf.1.cell (p := ⟨ib, q, none⟩) hib).trans hv
  have HC := hidd (And.intro c0 (And.intro c1 (And.intro c2 (And.intro c3 c4))))
  have HLA := hidd hla
  generalize hop : x.op = op at *
  have HOP := hidd hop
  clear h hla hop
  go_enter Tryz.func58, Tryz.ntmps58
  go_wp2_with fail
  refine CO.out.mono ?_
  rintro e w2 ⟨rfl, k1, k2⟩
  have hB2 : B ≤ w2.heap.size := Nat.le_trans hB k2.1.size
  have R2 := hidd k1
  have F2 := hidd k2
  have hl2 : (l ++ numB op).length ≤ 100010 := by rw [List.length_append]; have := HLo.out; omega
  clear k1 k2 CO c0 c1 c2 c3 c4
  have c0 := CELL.out w2 F2.out _ _ HC.out.1
  go_wp2_with fail
  refine (LY.out _).mono ?_
  rintro e w3 ⟨rfl, rfl⟩
  have LN := hidd (Tryz.Buffer_Len_at 65 _ B b 0 _ w3 R2.out)
  rw [bc_len] at LN
  obtain ⟨ln, hln⟩ : ∃ n, n = (l ++ numB op).length := ⟨_, rfl⟩
  rw [← hln] at LN
  have HLN := hidd hln
  clear hln
  go_wp2_with fail
  refine LN.out.mono ?_
  rintro e w9 ⟨rfl, nd, rfl⟩
  by_cases hle : ln ≤ 60000
  · have hle' : decide ((ln : Int) ≤ 60000) = true := by simp; omega
    go_wp2_with fail
    refine (otherwise_any true 4 _).mono ?_
    rintro e w8 ⟨rfl, rfl⟩
    go_wp2_with fail
    go_ret
    exact endW R2.out F2.out HLN.out (by unfold insB; rw [HOP.out, HLA.out]; simp) (Or.inl ⟨hle, rfl⟩)
  · have hle' : decide ((ln : Int) ≤ 60000) = false := by simp; omega
    go_wp2_with fail
    refine (otherwise_any false 4 _).mono ?_
    rintro e w8 ⟨rfl, rfl⟩
    go_wp2_with fail
    go_ret
    exact endW R2.out F2.out HLN.out (by unfold insB; rw [HOP.out, HLA.out]; simp) (Or.inr ⟨hle, rfl⟩)
set_option maxRecDepth 100000 in
set_option maxHeartbeats 1600000 in
theorem ins_w2 (qt : Dat → ByteArray) (B b ib io : Nat) (l : List UInt8) (x : In) (w : World) (h : WR B b l w) (hB : B ≤ w.heap.size) (hib : ib < B) (hl : l.length ≤ 100000) (hx : IsOk x) (hla : layW x.op = 2) (c0 : w.cell? ⟨ib, io, none⟩ = some (.int .i64 x.op)) (c1 : w.cell? ⟨ib, io + 1, none⟩ = some (.int .i64 x.a)) (c2 : w.cell? ⟨ib, io + 2, none⟩ = some (.int .i64 x.n)) (c3 : w.cell? ⟨ib, io + 3, none⟩ = some (.string x.lib)) (c4 : w.cell? ⟨ib, io + 4, none⟩ = some (.string x.own)) :
    Calls Tryz.prog 58 #[.pointer (some ⟨b, 0, none⟩), .pointer (some ⟨ib, io, none⟩)] w (ToldWI qt B b l x w) := by
  obtain ⟨⟨o1, o2⟩, b1, b2, b3, b4⟩ := hx
  have LY := hidd (fun w => layoutOf_any x.op w)
  rw [hla] at LY b1 b2 b3 b4
  have HB1 := hidd b1
  have HB2 := hidd b2
  have HB3 := hidd b3
  have HB4 := hidd b4
  clear b1 b2 b3 b4
  have CO := hidd (count_any B b l x.op w h hB (by omega) (by omega) (by omega))
  have HLo := hidd (numB_len (n := x.op) (by omega) (by omega))
  have CELL : Hid (∀ w1, Fw B b w w1 → ∀ q v, w.cell? ⟨ib, q, none⟩ = some v → w1.cell? ⟨ib, q, none⟩ = some v) := fun w1 hf q v hv => (hf.1.cell (p := ⟨ib, q, none⟩) hib).trans hv
  have HC := hidd (And.intro c0 (And.intro c1 (And.intro c2 (And.intro c3 c4))))
  have HLA := hidd hla
  generalize hop : x.op = op at *
  have HOP := hidd hop
  clear h hla hop
  go_enter Tryz.func58, Tryz.ntmps58
  go_wp2_with fail
  refine CO.out.mono ?_
  rintro e w2 ⟨rfl, k1, k2⟩
  have hB2 : B ≤ w2.heap.size := Nat.le_trans hB k2.1.size
  have R2 := hidd k1
  have F2 := hidd k2
  have hl2 : (l ++ numB op).length ≤ 100010 := by rw [List.length_append]; have := HLo.out; omega
  clear k1 k2 CO c0 c1 c2 c3 c4
  have c0 := CELL.out w2 F2.out _ _ HC.out.1
  go_wp2_with fail
  refine (LY.out _).mono ?_
  rintro e w3 ⟨rfl, rfl⟩
  have c2 := CELL.out w3 F2.out _ _ HC.out.2.2.1
  have N := hidd (number_any B b _ x.n w3 R2.out hB2 (by omega) (HB1.out (by trivial)).1 (HB1.out (by trivial)).2)
  go_wp2_with fail
  refine (N.out).mono ?_
  rintro e w4 ⟨rfl, k1, k2⟩
  have R4 := hidd k1
  have F4 := hidd (F2.out.trans k2)
  clear k1 k2
  have LN := hidd (Tryz.Buffer_Len_at 65 _ B b 0 _ w4 R4.out)
  rw [bc_len] at LN
  obtain ⟨ln, hln⟩ : ∃ n, n = (l ++ numB op ++ numB x.n).length := ⟨_, rfl⟩
  rw [← hln] at LN
  have HLN := hidd hln
  clear hln
  go_wp2_with fail
  refine LN.out.mono ?_
  rintro e w9 ⟨rfl, nd, rfl⟩
  by_cases hle : ln ≤ 60000
  · have hle' : decide ((ln : Int) ≤ 60000) = true := by simp; omega
    go_wp2_with fail
    refine (otherwise_any true 4 _).mono ?_
    rintro e w8 ⟨rfl, rfl⟩
    go_wp2_with fail
    go_ret
    exact endW R4.out F4.out HLN.out (by unfold insB; rw [HOP.out, HLA.out]; simp) (Or.inl ⟨hle, rfl⟩)
  · have hle' : decide ((ln : Int) ≤ 60000) = false := by simp; omega
    go_wp2_with fail
    refine (otherwise_any false 4 _).mono ?_
    rintro e w8 ⟨rfl, rfl⟩
    go_wp2_with fail
    go_ret
    exact endW R4.out F4.out HLN.out (by unfold insB; rw [HOP.out, HLA.out]; simp) (Or.inr ⟨hle, rfl⟩)
set_option maxRecDepth 100000 in
set_option maxHeartbeats 1600000 in
theorem ins_w5 (qt : Dat → ByteArray) (B b ib io : Nat) (l : List UInt8) (x : In) (w : World) (h : WR B b l w) (hB : B ≤ w.heap.size) (hib : ib < B) (hl : l.length ≤ 100000) (hx : IsOk x) (hla : layW x.op = 5) (c0 : w.cell? ⟨ib, io, none⟩ = some (.int .i64 x.op)) (c1 : w.cell? ⟨ib, io + 1, none⟩ = some (.int .i64 x.a)) (c2 : w.cell? ⟨ib, io + 2, none⟩ = some (.int .i64 x.n)) (c3 : w.cell? ⟨ib, io + 3, none⟩ = some (.string x.lib)) (c4 : w.cell? ⟨ib, io + 4, none⟩ = some (.string x.own)) :
    Calls Tryz.prog 58 #[.pointer (some ⟨b, 0, none⟩), .pointer (some ⟨ib, io, none⟩)] w (ToldWI qt B b l x w) := by
  obtain ⟨⟨o1, o2⟩, b1, b2, b3, b4⟩ := hx
  have LY := hidd (fun w => layoutOf_any x.op w)
  rw [hla] at LY b1 b2 b3 b4
  have HB1 := hidd b1
  have HB2 := hidd b2
  have HB3 := hidd b3
  have HB4 := hidd b4
  clear b1 b2 b3 b4
  have CO := hidd (count_any B b l x.op w h hB (by omega) (by omega) (by omega))
  have HLo := hidd (numB_len (n := x.op) (by omega) (by omega))
  have CELL : Hid (∀ w1, Fw B b w w1 → ∀ q v, w.cell? ⟨ib, q, none⟩ = some v → w1.cell? ⟨ib, q, none⟩ = some v) := fun w1 hf q v hv => (hf.1.cell (p := ⟨ib, q, none⟩) hib).trans hv
  have HC := hidd (And.intro c0 (And.intro c1 (And.intro c2 (And.intro c3 c4))))
  have HLA := hidd hla
  generalize hop : x.op = op at *
  have HOP := hidd hop
  clear h hla hop
  go_enter Tryz.func58, Tryz.ntmps58
  go_wp2_with fail
  refine CO.out.mono ?_
  rintro e w2 ⟨rfl, k1, k2⟩
  have hB2 : B ≤ w2.heap.size := Nat.le_trans hB k2.1.size
  have R2 := hidd k1
  have F2 := hidd k2
  have hl2 : (l ++ numB op).length ≤ 100010 := by rw [List.length_append]; have := HLo.out; omega
  clear k1 k2 CO c0 c1 c2 c3 c4
  have c0 := CELL.out w2 F2.out _ _ HC.out.1
  go_wp2_with fail
  refine (LY.out _).mono ?_
  rintro e w3 ⟨rfl, rfl⟩
  have c4 := CELL.out w3 F2.out _ _ HC.out.2.2.2.2
  have N := hidd (wtext_any B b _ x.own w3 R2.out hB2 (by omega) (by have := HB4.out (Or.inr (by trivial)); omega))
  go_wp2_with fail
  refine (N.out).mono ?_
  rintro e w4 ⟨rfl, k1, k2⟩
  have R4 := hidd k1
  have F4 := hidd (F2.out.trans k2)
  clear k1 k2
  have LN := hidd (Tryz.Buffer_Len_at 65 _ B b 0 _ w4 R4.out)
  rw [bc_len] at LN
  obtain ⟨ln, hln⟩ : ∃ n, n = (l ++ numB op ++ textB x.own).length := ⟨_, rfl⟩
  rw [← hln] at LN
  have HLN := hidd hln
  clear hln
  go_wp2_with fail
  refine LN.out.mono ?_
  rintro e w9 ⟨rfl, nd, rfl⟩
  by_cases hle : ln ≤ 60000
  · have hle' : decide ((ln : Int) ≤ 60000) = true := by simp; omega
    go_wp2_with fail
    refine (otherwise_any true 4 _).mono ?_
    rintro e w8 ⟨rfl, rfl⟩
    go_wp2_with fail
    go_ret
    exact endW R4.out F4.out HLN.out (by unfold insB; rw [HOP.out, HLA.out]; simp) (Or.inl ⟨hle, rfl⟩)
  · have hle' : decide ((ln : Int) ≤ 60000) = false := by simp; omega
    go_wp2_with fail
    refine (otherwise_any false 4 _).mono ?_
    rintro e w8 ⟨rfl, rfl⟩
    go_wp2_with fail
    go_ret
    exact endW R4.out F4.out HLN.out (by unfold insB; rw [HOP.out, HLA.out]; simp) (Or.inr ⟨hle, rfl⟩)
set_option maxRecDepth 100000 in
set_option maxHeartbeats 1600000 in
theorem ins_w6 (qt : Dat → ByteArray) (B b ib io : Nat) (l : List UInt8) (x : In) (w : World) (h : WR B b l w) (hB : B ≤ w.heap.size) (hib : ib < B) (hl : l.length ≤ 100000) (hx : IsOk x) (hla : layW x.op = 6) (c0 : w.cell? ⟨ib, io, none⟩ = some (.int .i64 x.op)) (c1 : w.cell? ⟨ib, io + 1, none⟩ = some (.int .i64 x.a)) (c2 : w.cell? ⟨ib, io + 2, none⟩ = some (.int .i64 x.n)) (c3 : w.cell? ⟨ib, io + 3, none⟩ = some (.string x.lib)) (c4 : w.cell? ⟨ib, io + 4, none⟩ = some (.string x.own)) :
    Calls Tryz.prog 58 #[.pointer (some ⟨b, 0, none⟩), .pointer (some ⟨ib, io, none⟩)] w (ToldWI qt B b l x w) := by
  obtain ⟨⟨o1, o2⟩, b1, b2, b3, b4⟩ := hx
  have LY := hidd (fun w => layoutOf_any x.op w)
  rw [hla] at LY b1 b2 b3 b4
  have HB1 := hidd b1
  have HB2 := hidd b2
  have HB3 := hidd b3
  have HB4 := hidd b4
  clear b1 b2 b3 b4
  have CO := hidd (count_any B b l x.op w h hB (by omega) (by omega) (by omega))
  have HLo := hidd (numB_len (n := x.op) (by omega) (by omega))
  have CELL : Hid (∀ w1, Fw B b w w1 → ∀ q v, w.cell? ⟨ib, q, none⟩ = some v → w1.cell? ⟨ib, q, none⟩ = some v) := fun w1 hf q v hv => (hf.1.cell (p := ⟨ib, q, none⟩) hib).trans hv
  have HC := hidd (And.intro c0 (And.intro c1 (And.intro c2 (And.intro c3 c4))))
  have HLA := hidd hla
  generalize hop : x.op = op at *
  have HOP := hidd hop
  clear h hla hop
  go_enter Tryz.func58, Tryz.ntmps58
  go_wp2_with fail
  refine CO.out.mono ?_
  rintro e w2 ⟨rfl, k1, k2⟩
  have hB2 : B ≤ w2.heap.size := Nat.le_trans hB k2.1.size
  have R2 := hidd k1
  have F2 := hidd k2
  have hl2 : (l ++ numB op).length ≤ 100010 := by rw [List.length_append]; have := HLo.out; omega
  clear k1 k2 CO c0 c1 c2 c3 c4
  have c0 := CELL.out w2 F2.out _ _ HC.out.1
  go_wp2_with fail
  refine (LY.out _).mono ?_
  rintro e w3 ⟨rfl, rfl⟩
  have c1 := CELL.out w3 F2.out _ _ HC.out.2.1
  have N := hidd (count_any B b _ x.a w3 R2.out hB2 (by omega) (HB2.out (by trivial)).1 (HB2.out (by trivial)).2)
  go_wp2_with fail
  refine (N.out).mono ?_
  rintro e w4 ⟨rfl, k1, k2⟩
  have R4 := hidd k1
  have F4 := hidd (F2.out.trans k2)
  clear k1 k2
  have LN := hidd (Tryz.Buffer_Len_at 65 _ B b 0 _ w4 R4.out)
  rw [bc_len] at LN
  obtain ⟨ln, hln⟩ : ∃ n, n = (l ++ numB op ++ numB x.a).length := ⟨_, rfl⟩
  rw [← hln] at LN
  have HLN := hidd hln
  clear hln
  go_wp2_with fail
  refine LN.out.mono ?_
  rintro e w9 ⟨rfl, nd, rfl⟩
  by_cases hle : ln ≤ 60000
  · have hle' : decide ((ln : Int) ≤ 60000) = true := by simp; omega
    go_wp2_with fail
    refine (otherwise_any true 4 _).mono ?_
    rintro e w8 ⟨rfl, rfl⟩
    go_wp2_with fail
    go_ret
    exact endW R4.out F4.out HLN.out (by unfold insB; rw [HOP.out, HLA.out]; simp) (Or.inl ⟨hle, rfl⟩)
  · have hle' : decide ((ln : Int) ≤ 60000) = false := by simp; omega
    go_wp2_with fail
    refine (otherwise_any false 4 _).mono ?_
    rintro e w8 ⟨rfl, rfl⟩
    go_wp2_with fail
    go_ret
    exact endW R4.out F4.out HLN.out (by unfold insB; rw [HOP.out, HLA.out]; simp) (Or.inr ⟨hle, rfl⟩)
set_option maxRecDepth 100000 in
set_option maxHeartbeats 1600000 in
theorem ins_w4 (qt : Dat → ByteArray) (B b ib io : Nat) (l : List UInt8) (x : In) (w : World) (h : WR B b l w) (hB : B ≤ w.heap.size) (hib : ib < B) (hl : l.length ≤ 100000) (hx : IsOk x) (hla : layW x.op = 4) (c0 : w.cell? ⟨ib, io, none⟩ = some (.int .i64 x.op)) (c1 : w.cell? ⟨ib, io + 1, none⟩ = some (.int .i64 x.a)) (c2 : w.cell? ⟨ib, io + 2, none⟩ = some (.int .i64 x.n)) (c3 : w.cell? ⟨ib, io + 3, none⟩ = some (.string x.lib)) (c4 : w.cell? ⟨ib, io + 4, none⟩ = some (.string x.own)) :
    Calls Tryz.prog 58 #[.pointer (some ⟨b, 0, none⟩), .pointer (some ⟨ib, io, none⟩)] w (ToldWI qt B b l x w) := by
  obtain ⟨⟨o1, o2⟩, b1, b2, b3, b4⟩ := hx
  have LY := hidd (fun w => layoutOf_any x.op w)
  rw [hla] at LY b1 b2 b3 b4
  have HB1 := hidd b1
  have HB2 := hidd b2
  have HB3 := hidd b3
  have HB4 := hidd b4
  clear b1 b2 b3 b4
  have CO := hidd (count_any B b l x.op w h hB (by omega) (by omega) (by omega))
  have HLo := hidd (numB_len (n := x.op) (by omega) (by omega))
  have CELL : Hid (∀ w1, Fw B b w w1 → ∀ q v, w.cell? ⟨ib, q, none⟩ = some v → w1.cell? ⟨ib, q, none⟩ = some v) := fun w1 hf q v hv => (hf.1.cell (p := ⟨ib, q, none⟩) hib).trans hv
  have HC := hidd (And.intro c0 (And.intro c1 (And.intro c2 (And.intro c3 c4))))
  have HLA := hidd hla
  generalize hop : x.op = op at *
  have HOP := hidd hop
  clear h hla hop
  go_enter Tryz.func58, Tryz.ntmps58
  go_wp2_with fail
  refine CO.out.mono ?_
  rintro e w2 ⟨rfl, k1, k2⟩
  have hB2 : B ≤ w2.heap.size := Nat.le_trans hB k2.1.size
  have R2 := hidd k1
  have F2 := hidd k2
  have hl2 : (l ++ numB op).length ≤ 100010 := by rw [List.length_append]; have := HLo.out; omega
  clear k1 k2 CO c0 c1 c2 c3 c4
  have c0 := CELL.out w2 F2.out _ _ HC.out.1
  go_wp2_with fail
  refine (LY.out _).mono ?_
  rintro e w3 ⟨rfl, rfl⟩
  have c3 := CELL.out w3 F2.out _ _ HC.out.2.2.2.1
  have N := hidd (wtext_any B b _ x.lib w3 R2.out hB2 (by omega) (by have := HB3.out (by trivial); omega))
  have HTL := hidd (textB_len (s := x.lib) (by have := HB3.out (by trivial); omega))
  have hls := HB3.out (by trivial)
  go_wp2_with fail
  refine (N.out).mono ?_
  rintro e w4 ⟨rfl, k1, k2⟩
  have R4 := hidd k1
  have F4 := hidd (F2.out.trans k2)
  clear k1 k2
  have c4 := CELL.out w4 F4.out _ _ HC.out.2.2.2.2
  have N2 := hidd (wtext_any B b _ x.own w4 R4.out (Nat.le_trans hB F4.out.1.size) (by rw [List.length_append]; have := HTL.out; omega) (by have := HB4.out (Or.inl (by trivial)); omega))
  go_wp2_with fail
  refine (N2.out).mono ?_
  rintro e w5 ⟨rfl, k1, k2⟩
  have R5 := hidd k1
  have F5 := hidd (F4.out.trans k2)
  clear k1 k2
  have LN := hidd (Tryz.Buffer_Len_at 65 _ B b 0 _ w5 R5.out)
  rw [bc_len] at LN
  obtain ⟨ln, hln⟩ : ∃ n, n = (l ++ numB op ++ textB x.lib ++ textB x.own).length := ⟨_, rfl⟩
  rw [← hln] at LN
  have HLN := hidd hln
  clear hln
  go_wp2_with fail
  refine LN.out.mono ?_
  rintro e w9 ⟨rfl, nd, rfl⟩
  by_cases hle : ln ≤ 60000
  · have hle' : decide ((ln : Int) ≤ 60000) = true := by simp; omega
    go_wp2_with fail
    refine (otherwise_any true 4 _).mono ?_
    rintro e w8 ⟨rfl, rfl⟩
    go_wp2_with fail
    go_ret
    exact endW R5.out F5.out HLN.out (by unfold insB; rw [HOP.out, HLA.out]; simp) (Or.inl ⟨hle, rfl⟩)
  · have hle' : decide ((ln : Int) ≤ 60000) = false := by simp; omega
    go_wp2_with fail
    refine (otherwise_any false 4 _).mono ?_
    rintro e w8 ⟨rfl, rfl⟩
    go_wp2_with fail
    go_ret
    exact endW R5.out F5.out HLN.out (by unfold insB; rw [HOP.out, HLA.out]; simp) (Or.inr ⟨hle, rfl⟩)
end
end Go.Proofs.YtfmanhkeclogfaaGreatDoor
