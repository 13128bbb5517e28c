/- The document's reader: One, words. -/
import Derived.Test.YtonafbennobgdaaGreatDoorK42
namespace Go.Proofs.YtonafbennobgdaaGreatDoor.R1
set_option linter.unusedVariables false
set_option linter.unusedSimpArgs false
open Go.RowKit
def accN (l : List UInt8) : Nat := l.foldl (fun v c => if c = 45 then v else 10 * v + (c.toNat - 48)) 0
theorem accN_snoc (l : List UInt8) (c : UInt8) : accN (l ++ [c]) = if c = 45 then accN l else 10 * accN l + (c.toNat - 48) := by
 unfold accN
 rw [List.foldl_append]
 rfl
def numB (c : UInt8) : Prop := c = 45 ∨ (48 ≤ c.toNat ∧ c.toNat ≤ 57)
theorem accN_lt (l : List UInt8) (h : ∀ c, c ∈ l → numB c) : ∀ (k : Nat), k ≤ l.length → accN (l.take k) < 10 ^ k
 | 0, _ => by simp [accN]
 | k + 1, hk => by
  have ih := accN_lt l h k (by omega)
  rw [take_snoc' l k (by omega), accN_snoc, Nat.pow_succ]
  have hm : l[k]?.getD 0 ∈ l := by rw [List.getElem?_eq_getElem (by omega)]; exact List.getElem_mem _
  rcases h _ hm with e | ⟨e1, e2⟩
  ·rw [if_pos e]; omega
  split <;> omega
theorem acc_dig : ∀ (l : List UInt8) (a : Nat), allDig l = true → l.foldl (fun v c => if c = 45 then v else 10 * v + (c.toNat - 48)) a = l.foldl (fun n c => 10 * n + (c.toNat - 48)) a
 | [], _, _ => rfl
 | c :: r, a, h => by
  unfold allDig at h
  simp only [List.all_cons, Bool.and_eq_true] at h
  have hc : c ≠ 45 := by
   rintro rfl
   exact absurd h.1 (by decide)
  show r.foldl _ (if c = 45 then a else 10 * a + (c.toNat - 48)) = r.foldl _ (10 * a + (c.toNat - 48))
  rw [if_neg hc]
  exact acc_dig r _ (by unfold allDig; exact h.2)
theorem looks_parts {b : List UInt8} (h : looksB b = true) : allDig (unsign b) = true ∧ unsign b ≠ [] := by
 unfold looksB at h
 simp only [Bool.and_eq_true] at h
 refine ⟨h.1, ?_⟩
 intro e
 rw [e] at h
 simp at h
theorem dig_num {c : UInt8} (h : digB (c.toNat : Int) = true) : numB c := by
 unfold digB at h
 simp at h
 exact Or.inr ⟨by omega, by omega⟩
theorem looks_num {b : List UInt8} (h : looksB b = true) : ∀ c, c ∈ b → numB c := by
 obtain ⟨h1, _⟩ := looks_parts h
 unfold unsign at h1
 intro c hc
 split at h1
 ·rename_i hh
  cases b with
  | nil => simp at hh
  | cons d r =>
   simp at hh
   subst hh
   simp only [List.tail_cons] at h1
   rcases List.mem_cons.1 hc with rfl | hc
   ·exact Or.inl rfl
   unfold allDig at h1
   rw [List.all_eq_true] at h1
   exact dig_num (h1 c hc)
 unfold allDig at h1
 rw [List.all_eq_true] at h1
 exact dig_num (h1 c hc)
theorem looks_acc {b : List UInt8} (h : looksB b = true) : numOf b = if b.head? = some 45 then -((accN b : Nat) : Int) else ((accN b : Nat) : Int) := by
 obtain ⟨h1, _⟩ := looks_parts h
 unfold unsign at h1
 unfold numOf
 by_cases hh : b.head? = some 45
 ·rw [if_pos hh] at h1 ⊢
  rw [if_pos hh]
  cases b with
  | nil => simp at hh
  | cons d r =>
   simp at hh
   subst hh
   simp only [List.tail_cons] at h1 ⊢
   have : accN (45 :: r) = digN r := by
    show r.foldl _ (if (45 : UInt8) = 45 then 0 else _) = _
    rw [if_pos rfl]
    exact acc_dig r 0 h1
   rw [this]
 rw [if_neg hh] at h1 ⊢
 rw [if_neg hh]
 have : accN b = digN b := acc_dig b 0 h1
 rw [this]
theorem range_acc {b : List UInt8} (h : looksB b = true) : rangeB (numOf b) = decide (accN b ≤ 1000000000000000) := by
 rw [looks_acc h]
 unfold rangeB
 split
 ·rw [Bool.eq_iff_iff]; simp; omega
 rw [Bool.eq_iff_iff]; simp; omega
theorem looks_ne {b : List UInt8} (h : looksB b = true) : 0 < b.length := by
 cases b with
 | nil => exact absurd h (by decide)
 | cons _ _ => simp
theorem bytes_same (s : ByteArray) : (⟨s.data.toList.toArray⟩ : ByteArray) = s := by
 obtain ⟨⟨l⟩⟩ := s
 rfl
theorem extract_word (s : ByteArray) (i t : Nat) (h : i + (byteL (s.data.toList.drop i)).length = t) : (s.extract i t).data.toList = byteL (s.data.toList.drop i) := by
 rw [ByteArray.data_extract]
 simp only [Array.toList_extract, List.extract_eq_take_drop]
 rw [show t - i = (byteL (s.data.toList.drop i)).length from by omega]
 exact take_takeWhile _
set_option maxRecDepth 100000 in
set_option maxHeartbeats 1600000 in
theorem One_word (rb : Nat) (s : ByteArray) (i n : Nat) (dp : Int) (w : World) (h : Wk rb s i n (0, 0) w) (hi : i < s.size) (hs : s.size ≤ 6000) (hn : n ≤ 1999) (hd : dp ≤ 40) (hl : letB (s[i].toNat : Int) = true) :
 Calls Tryz.prog 85 #[.pointer (some ⟨rb, 0, none⟩), .int .i64 dp] w (OutW rb s (wordAt (byteL (s.data.toList.drop i)) i (n + 1)) w) := by
 obtain ⟨h40, h39, h35, _⟩ := let_not hl
 have e40 : ((s[i].toNat : Int) == 40) = false := by rw [show ((40 : Int)) = ((40 : UInt8).toNat : Int) from rfl, byte_is]; simpa using h40
 have e39 : ((s[i].toNat : Int) == 39) = false := by rw [show ((39 : Int)) = ((39 : UInt8).toNat : Int) from rfl, byte_is]; simpa using h39
 have e35 : ((s[i].toNat : Int) == 35) = false := by rw [show ((35 : Int)) = ((35 : UInt8).toNat : Int) from rfl, byte_is]; simpa using h35
 have LT : Hid (∀ w, Calls Tryz.prog 112 #[.int .u8 (s[i].toNat : Int)] w fun e w' => e = .returned (.bool true) ∧ Below w.heap.size w w') := fun w => by
  have := letter_is s[i] w
  rw [hl] at this
  exact this
 have HB0 : Hid (byteL (s.data.toList.drop i) = s[i] :: byteL (s.data.toList.drop (i + 1))) := by
  show byteL (s.data.toList.drop i) = s[i] :: byteL (s.data.toList.drop (i + 1))
  rw [byteL_at (at_of hi), hl, if_pos rfl]
 obtain ⟨t, HT⟩ : ∃ t, Hid (i + (byteL (s.data.toList.drop i)).length = t) := ⟨_, rfl⟩
 have HT1 : Hid ((i + 1) + (byteL (s.data.toList.drop (i + 1))).length = t) := by
  have := HT.out
  rw [HB0.out] at this
  simp at this
  show _ = t
  omega
 obtain ⟨b, HBB⟩ : ∃ b, Hid (byteL (s.data.toList.drop i) = b) := ⟨_, rfl⟩
 rw [HBB.out]
 have hlen : s.data.toList.length = s.size := Array.length_toList
 have hbl := byteL_le (s.data.toList.drop i)
 rw [List.length_drop, hlen] at hbl
 have hit : i + 1 ≤ t := by have := HT1.out; omega
 have hts : t ≤ s.size := by have := HT.out; omega
 have HTL : Hid ((s.extract i t).data.toList = b) := (extract_word s i t HT.out).trans HBB.out
 have htz : (s.extract i t).size = t - i := by rw [ByteArray.size_extract]; omega
 have HTZ : Hid ((s.extract i t).size = t - i) := htz
 have HTB : Hid (i + b.length = t ∧ (s.extract i t).size = b.length) := by
  have := HT.out
  rw [HBB.out] at this
  exact ⟨this, by omega⟩
 have LK : Hid (∀ w, Calls Tryz.prog 113 #[.string (s.extract i t)] w fun e w' => e = .returned (.bool (looksB b)) ∧ Below w.heap.size w w') := fun w => by
  have := Looks_any (s.extract i t) (by rw [htz]; unfold maxLen; omega) w
  rw [HTL.out] at this
  exact this
 clear hbl hlen htz
 clear h40 h39 h35 hl
 have HR : Hid (Wk rb s i n (0, 0) w) := h
 have c1 := h.c1
 have l1 := h.lt
 have hN : w.heap.size ≠ rb := Nat.ne_of_gt l1
 clear h
 go_enter Tryz.func85, Tryz.ntmps85
 go_wp2_with fail
 refine (rcount_ok rb s i n dp i _ (HR.out.alloc _) hn hd).mono ?_
 rintro e w1 ⟨rfl, hk1, hr1⟩
 have H1 : Hid (Hd rb s i (n + 1) w w1) := ⟨((Keep.refl rb w).alloc _).trans hk1, hr1, (Six.made w).keep hk1 hN⟩
 clear hk1 hr1 c1 HR
 go_wp2_with fail
 refine (good_yes rb s i (n + 1) _ H1.out.wk).mono ?_
 rintro e w2 ⟨rfl, rfl⟩
 have c0 := H1.out.wk.c0
 have c1 := H1.out.wk.c1
 have z1 := H1.out.wk.z 1
 go_wp2_with fail
 refine (LT.out _).mono ?_
 rintro e w3 ⟨rfl, hb3⟩
 have H3 : Hid (Hd rb s (i + 1) (n + 1) w w3) := (H1.out.move hN (i + 1) _ (by omega)).more hb3
 clear hb3 H1 c0 c1 z1 LT
 go_wp2_with fail
 go_loopg [] (s.size - (i + 1)) (fun g wr => ∃ j : Nat, i + 1 ≤ j ∧ j ≤ s.size ∧ g = s.size - j ∧ Hd rb s j (n + 1) w wr ∧ j + (byteL (s.data.toList.drop j)).length = t)
 case atStart => exact ⟨i + 1, Nat.le_refl _, hi, rfl, H3.out, HT1.out⟩
 obtain ⟨j, hij, hj, rfl, hhd, he⟩ := hrel
 have HD : Hid (Hd rb s j (n + 1) w wr) := hhd
 have HE : Hid (j + (byteL (s.data.toList.drop j)).length = t) := he
 have c0 := hhd.wk.c0
 have c1 := hhd.wk.c1
 have z1 := hhd.wk.z 1
 clear hhd he H3
 by_cases hlt : j < s.size
 rotate_left
 ·obtain rfl : j = s.size := by omega
  have HJT : Hid (s.size = t) := by
   have := HE.out
   rw [byteL_none (by rw [Array.length_toList]; exact Nat.le_refl _)] at this
   exact this
  have HKN : Hid (decide ((s.size : Int) < (s.size : Int)) = false) := decide_eq_false (by omega)
  clear HE
  go_wp2_with fail
  have hq0 := HKN.out
  go_quiet (fail)
  clear hq0
  have H4 : Hid (Hd rb s t (n + 1) w (wr.drewN nq)) := by
   rw [← HJT.out]
   exact HD.out.drewN nq
  generalize wr.drewN nq = w4 at H4 ⊢
  clear HD c0 c1 z1
  go_wp2_with fail
  have c0 := H4.out.wk.c0
  have c1 := H4.out.wk.c1
  go_quiet (fail)
  have H5 : Hid (Hd rb s t (n + 1) w (w4.drewN nq)) := H4.out.drewN nq
  generalize w4.drewN nq = w5 at H5 ⊢
  generalize s.extract i t = T at HTL HTZ HTB LK ⊢
  clear H4 c0 c1
  go_wp2_with fail
  refine (LK.out _).mono ?_
  rintro e w6 ⟨rfl, hb6⟩
  have H6 : Hid (Hd rb s t (n + 1) w w6) := H5.out.more hb6
  clear hb6 H5 LK
  by_cases hlk : looksB b = true
  rotate_left
  ·have hlk' : looksB b = false := by simpa using hlk
   rw [hlk']
   by_cases h20 : 20 < T.size
   ·have h20' : (20 : Int) < (T.size : Int) := by omega
    have HRES : Hid (wordAt b i (n + 1) = .inl (7, (i : Int))) := by
     show wordAt b i (n + 1) = .inl (7, (i : Int))
     unfold wordAt
     rw [if_neg (by rw [hlk']; simp), if_pos (by rw [← HTB.out.2]; exact h20)]
    go_wp2_with fail
    refine (stop_any rb s t (n + 1) 7 i _ H6.out.wk).mono ?_
    rintro e w7 ⟨rfl, hk7, hr7⟩
    have SY : Hid (Six w.heap.size w7) := H6.out.six.keep hk7 hN
    have H7 : Hid (Keep rb w w7 ∧ Wk rb s t (n + 1) (7, (i : Int)) w7) := ⟨H6.out.keep.trans hk7, hr7⟩
    clear hk7 hr7 H6
    go_wp2_with fail
    refine (Sym_any T _).mono ?_
    rintro e w8 ⟨rfl, hb8⟩
    obtain ⟨x0, x1, x2, x3, x4, x5, x6, x7⟩ := SY.out.after hb8
    have H8 : Hid (Keep rb w w8 ∧ Wk rb s t (n + 1) (7, (i : Int)) w8) := ⟨H7.out.1.below hb8, H7.out.2.below hb8⟩
    clear hb8 H7 SY
    unfold dv
    go_wp2_with fail
    refine bodyPost_ret (v := dv ⟨3, 0, T, 0, 0, []⟩ none 0) (by simp [results, Tryz.results85, go_sem, dv, x1, x2, x3, x4, x5, x6]) rfl ?_
    rw [HRES.out]
    exact ⟨keep_six H8.out.1 (Nat.le_refl _) _ _ _ _ _ _, ⟨3, 0, T, 0, 0, []⟩, none, 0, rfl, t, n + 1, hts, H8.out.2.six hN _ _ _ _ _ _⟩
   have h20' : ¬ (20 : Int) < (T.size : Int) := by omega
   have HRES : Hid (wordAt b i (n + 1) = .inr (datSym b, t, n + 1)) := by
    show wordAt b i (n + 1) = .inr (datSym b, t, n + 1)
    unfold wordAt
    rw [if_neg (by rw [hlk']; simp), if_neg (by rw [← HTB.out.2]; exact h20), HTB.out.1]
   have HNM : Hid (datSym b = ⟨3, 0, T, 0, 0, []⟩) := by
    show datSym b = ⟨3, 0, T, 0, 0, []⟩
    unfold datSym
    rw [← HTL.out, bytes_same]
   go_wp2_with fail
   refine (Sym_any T _).mono ?_
   rintro e w8 ⟨rfl, hb8⟩
   obtain ⟨x0, x1, x2, x3, x4, x5, x6, x7⟩ := H6.out.six.after hb8
   have H8 : Hid (Keep rb w w8 ∧ Wk rb s t (n + 1) (0, 0) w8) := ⟨H6.out.keep.below hb8, H6.out.wk.below hb8⟩
   clear hb8 H6
   unfold dv
   go_wp2_with fail
   refine bodyPost_ret (v := dv ⟨3, 0, T, 0, 0, []⟩ none 0) (by simp [results, Tryz.results85, go_sem, dv, x1, x2, x3, x4, x5, x6]) rfl ?_
   rw [HRES.out, HNM.out]
   exact ⟨keep_six H8.out.1 (Nat.le_refl _) _ _ _ _ _ _, H8.out.2.six hN _ _ _ _ _ _, none, 0, 0, rfl, rfl⟩
  rw [hlk]
  by_cases h17 : 17 < T.size
  ·have h17' : (17 : Int) < (T.size : Int) := by omega
   have HRES : Hid (wordAt b i (n + 1) = .inl (3, (i : Int))) := by
    show wordAt b i (n + 1) = .inl (3, (i : Int))
    unfold wordAt
    rw [if_pos hlk, if_pos (by rw [← HTB.out.2]; exact h17)]
   clear hlk
   go_wp2_with fail
   refine (stop_any rb s t (n + 1) 3 i _ H6.out.wk).mono ?_
   rintro e w7 ⟨rfl, hk7, hr7⟩
   obtain ⟨x0, x1, x2, x3, x4, x5, x6, x7⟩ := H6.out.six.keep hk7 hN
   have H7 : Hid (Keep rb w w7 ∧ Wk rb s t (n + 1) (3, (i : Int)) w7) := ⟨H6.out.keep.trans hk7, hr7⟩
   clear hk7 hr7 H6
   go_wp2_with fail
   refine bodyPost_ret (v := dv dat0 none 0) (by simp [results, Tryz.results85, go_sem, dv, dat0, x1, x2, x3, x4, x5, x6]) rfl ?_
   rw [HRES.out]
   exact ⟨keep_six H7.out.1 (Nat.le_refl _) _ _ _ _ _ _, dat0, none, 0, rfl, t, n + 1, hts, H7.out.2.six hN _ _ _ _ _ _⟩
  have h17' : ¬ (17 : Int) < (T.size : Int) := by omega
  have hcv := fun w s => run_bytes_of_string (P := Tryz.prog) w 9 129 5 s Tryz.underlying9 Tryz.underlying129 Tryz.underlying5
  have HNB : Hid (∀ c, c ∈ b → numB c) := looks_num hlk
  have HLT : Hid (∀ k, k ≤ b.length → accN (b.take k) < 10 ^ k) := accN_lt b (looks_num hlk)
  have HLA : Hid (numOf b = if b.head? = some 45 then -((accN b : Nat) : Int) else ((accN b : Nat) : Int)) := looks_acc hlk
  have HRA : Hid (rangeB (numOf b) = decide (accN b ≤ 1000000000000000)) := range_acc hlk
  have hpos : 0 < T.size := by rw [HTB.out.2]; exact looks_ne hlk
  have HLK : Hid (looksB b = true) := hlk
  clear hlk
  have HWc : Hid (∀ j, j < T.size → ((w6.alloc (Obj.cells (bytesRow T (grownCap w6 T.size 0 5)) 5 ((bytesRow T (grownCap w6 T.size 0 5)).size, (bytesRow T (grownCap w6 T.size 0 5)).size + 1))).drew).cell? ⟨w6.heap.size, j, none⟩ = some (.int .u8 ((b[j]?.getD 0).toNat : Int))) := by
   intro j hj
   refine (World.cell?_alloc_mark w6 _ 5 _ j).trans ?_
   rw [bytesRow_at _ _ j hj, HTL.out]
  have H7 : Hid (Hd rb s t (n + 1) w ((w6.alloc (Obj.cells (bytesRow T (grownCap w6 T.size 0 5)) 5 ((bytesRow T (grownCap w6 T.size 0 5)).size, (bytesRow T (grownCap w6 T.size 0 5)).size + 1))).drew)) := H6.out.more (((Below.refl _ _).alloc (Nat.le_refl _) _).drew)
  go_wp2_with fail
  generalize ((w6.alloc (Obj.cells (bytesRow T (grownCap w6 T.size 0 5)) 5 ((bytesRow T (grownCap w6 T.size 0 5)).size, (bytesRow T (grownCap w6 T.size 0 5)).size + 1))).drew) = W at HWc H7 ⊢
  clear hcv H6
  go_loopw [10, 262] (fun nv iv wx => ∃ k : Nat, k ≤ T.size ∧ nv = .int .i64 ((accN (b.take k) : Nat) : Int) ∧ iv = .int .i64 (k : Int) ∧ wx = W) (fun _ iv _ => T.size - (intOf iv).toNat)
  case atStart => exact ⟨0, by omega, rfl, rfl, rfl⟩
  obtain ⟨k, hk, rfl, rfl, rfl⟩ := hrel
  by_cases hkt : k < T.size
  ·have hck := HWc.out k hkt
   have hklen : k < b.length := by rw [← HTB.out.2]; exact hkt
   have hacc := HLT.out k (by omega)
   have hp17 : (10 : Nat) ^ k ≤ 10 ^ 17 := Nat.pow_le_pow_right (by omega) (by omega)
   have hbig : accN (b.take k) < 100000000000000000 := by omega
   have HSN : Hid (accN (b.take (k + 1)) = if b[k]?.getD 0 = 45 then accN (b.take k) else 10 * accN (b.take k) + ((b[k]?.getD 0).toNat - 48)) := by
    show accN (b.take (k + 1)) = _
    rw [take_snoc' b k hklen, accN_snoc]
   have HNK : Hid (numB (b[k]?.getD 0)) := HNB.out _ (by rw [List.getElem?_eq_getElem hklen]; exact List.getElem_mem _)
   generalize b[k]?.getD 0 = c at hck HSN HNK
   generalize accN (b.take k) = v at hbig HSN ⊢
   clear hacc hp17
   by_cases h45 : c = 45
   ·have m45 : ((c.toNat : Int) != 45) = false := by rw [h45]; rfl
    have HV : Hid (accN (b.take (k + 1)) = v) := by
     have := HSN.out
     rw [if_pos h45] at this
     exact this
    clear h45
    go_wp2_with fail
    go_roundw
    case rel => exact ⟨k + 1, by omega, by rw [HV.out], by go_num, trivial⟩
    case measure => simp [intOf]; omega
   have m45 : ((c.toNat : Int) != 45) = true := by
    have e45 : ((c.toNat : Int) == 45) = false := by rw [show ((45 : Int)) = ((45 : UInt8).toNat : Int) from rfl, byte_is]; simpa using h45
    simp only [bne, e45]; rfl
   have HV : Hid (accN (b.take (k + 1)) = 10 * v + (c.toNat - 48)) := by
    have := HSN.out
    rw [if_neg h45] at this
    exact this
   have hc2 : 48 ≤ c.toNat ∧ c.toNat ≤ 57 := by
    rcases HNK.out with e | e
    ·exact absurd e h45
    exact e
   obtain ⟨hc3, hc4⟩ := hc2
   clear h45 HSN HNK
   go_wp2_with fail
   go_roundw
   case rel =>
    refine ⟨k + 1, by omega, ?_, by go_num, trivial⟩
    rw [HV.out]
    congr 1
    omega
   case measure => simp [intOf]; omega
  obtain rfl : k = T.size := by omega
  have HFULL : Hid (b.take T.size = b) := List.take_of_length_le (by rw [← HTB.out.2]; exact Nat.le_refl _)
  rw [HFULL.out]
  have hg0 := get_at T 0 0 rfl hpos
  have HHD : Hid (b.head? = some T[0]) := by
   show b.head? = some T[0]
   rw [← HTL.out, List.head?_eq_getElem?]
   exact at_of hpos
  have hvb : accN b < 100000000000000000 := by
   have h1 := HLT.out b.length (Nat.le_refl _)
   rw [List.take_length] at h1
   have h2 : (10 : Nat) ^ b.length ≤ 10 ^ 17 := Nat.pow_le_pow_right (by omega) (by rw [← HTB.out.2]; omega)
   omega
  have HWO : Hid (wordAt b i (n + 1) = if accN b ≤ 1000000000000000 then .inr (datNum (numOf b), t, n + 1) else .inl (3, (i : Int))) := by
   show wordAt b i (n + 1) = _
   unfold wordAt
   rw [if_pos HLK.out, if_neg (by rw [← HTB.out.2]; exact h17), HRA.out, HTB.out.1]
   by_cases hx : accN b ≤ 1000000000000000
   ·rw [if_pos (by simpa using hx), if_pos hx]
   rw [if_neg (by simpa using hx), if_neg hx]
  rw [HHD.out] at HLA
  generalize numOf b = nb at HLA HWO
  generalize accN b = v at hvb HLA HWO ⊢
  by_cases hbig : 1000000000000000 < v
  ·have hb' : (1000000000000000 : Int) < (v : Int) := by omega
   have HRES : Hid (wordAt b i (n + 1) = .inl (3, (i : Int))) := by
    have := HWO.out
    rw [if_neg (by omega)] at this
    exact this
   clear HWO HLA
   go_wp2_with fail
   refine (stop_any rb s t (n + 1) 3 i _ H7.out.wk).mono ?_
   rintro e w8 ⟨rfl, hk8, hr8⟩
   have SY : Hid (Six w.heap.size w8) := H7.out.six.keep hk8 hN
   have H8 : Hid (Keep rb w w8 ∧ Wk rb s t (n + 1) (3, (i : Int)) w8) := ⟨H7.out.keep.trans hk8, hr8⟩
   clear hk8 hr8 H7 HWc
   by_cases h45 : T[0] = 45
   ·have e45 : ((T[0].toNat : Int) == 45) = true := by rw [h45]; rfl
    clear h45
    go_wp2_with fail
    refine (Num_any (-(v : Int)) _).mono ?_
    rintro e w9 ⟨rfl, hb9⟩
    obtain ⟨x0, x1, x2, x3, x4, x5, x6, x7⟩ := SY.out.after hb9
    have H9 : Hid (Keep rb w w9 ∧ Wk rb s t (n + 1) (3, (i : Int)) w9) := ⟨H8.out.1.below hb9, H8.out.2.below hb9⟩
    clear hb9 H8 SY
    unfold dv
    go_wp2_with fail
    refine bodyPost_ret (v := dv ⟨1, -(v : Int), ⟨#[]⟩, 0, 0, []⟩ none 0) (by simp [results, Tryz.results85, go_sem, dv, x1, x2, x3, x4, x5, x6]) rfl ?_
    rw [HRES.out]
    exact ⟨keep_six H9.out.1 (Nat.le_refl _) _ _ _ _ _ _, ⟨1, -(v : Int), ⟨#[]⟩, 0, 0, []⟩, none, 0, rfl, t, n + 1, hts, H9.out.2.six hN _ _ _ _ _ _⟩
   have e45 : ((T[0].toNat : Int) == 45) = false := by rw [show ((45 : Int)) = ((45 : UInt8).toNat : Int) from rfl, byte_is]; simpa using h45
   clear h45
   go_wp2_with fail
   refine (Num_any ((v : Int)) _).mono ?_
   rintro e w9 ⟨rfl, hb9⟩
   obtain ⟨x0, x1, x2, x3, x4, x5, x6, x7⟩ := SY.out.after hb9
   have H9 : Hid (Keep rb w w9 ∧ Wk rb s t (n + 1) (3, (i : Int)) w9) := ⟨H8.out.1.below hb9, H8.out.2.below hb9⟩
   clear hb9 H8 SY
   unfold dv
   go_wp2_with fail
   refine bodyPost_ret (v := dv ⟨1, (v : Int), ⟨#[]⟩, 0, 0, []⟩ none 0) (by simp [results, Tryz.results85, go_sem, dv, x1, x2, x3, x4, x5, x6]) rfl ?_
   rw [HRES.out]
   exact ⟨keep_six H9.out.1 (Nat.le_refl _) _ _ _ _ _ _, ⟨1, (v : Int), ⟨#[]⟩, 0, 0, []⟩, none, 0, rfl, t, n + 1, hts, H9.out.2.six hN _ _ _ _ _ _⟩
  have hb' : ¬ (1000000000000000 : Int) < (v : Int) := by omega
  have HRES : Hid (wordAt b i (n + 1) = .inr (datNum nb, t, n + 1)) := by
   have := HWO.out
   rw [if_pos (by omega)] at this
   exact this
  clear HWO HWc
  by_cases h45 : T[0] = 45
  ·have e45 : ((T[0].toNat : Int) == 45) = true := by rw [h45]; rfl
   have HNB2 : Hid (datNum nb = ⟨1, -(v : Int), ⟨#[]⟩, 0, 0, []⟩) := by
    have := HLA.out
    rw [h45, if_pos rfl] at this
    show datNum nb = _
    rw [this]
    rfl
   clear h45
   go_wp2_with fail
   refine (Num_any (-(v : Int)) _).mono ?_
   rintro e w9 ⟨rfl, hb9⟩
   obtain ⟨x0, x1, x2, x3, x4, x5, x6, x7⟩ := H7.out.six.after hb9
   have H9 : Hid (Keep rb w w9 ∧ Wk rb s t (n + 1) (0, 0) w9) := ⟨H7.out.keep.below hb9, H7.out.wk.below hb9⟩
   clear hb9 H7
   unfold dv
   go_wp2_with fail
   refine bodyPost_ret (v := dv ⟨1, -(v : Int), ⟨#[]⟩, 0, 0, []⟩ none 0) (by simp [results, Tryz.results85, go_sem, dv, x1, x2, x3, x4, x5, x6]) rfl ?_
   rw [HRES.out, HNB2.out]
   exact ⟨keep_six H9.out.1 (Nat.le_refl _) _ _ _ _ _ _, H9.out.2.six hN _ _ _ _ _ _, none, 0, 0, rfl, rfl⟩
  have e45 : ((T[0].toNat : Int) == 45) = false := by rw [show ((45 : Int)) = ((45 : UInt8).toNat : Int) from rfl, byte_is]; simpa using h45
  have HNB2 : Hid (datNum nb = ⟨1, (v : Int), ⟨#[]⟩, 0, 0, []⟩) := by
   have := HLA.out
   rw [if_neg (by simpa using h45)] at this
   show datNum nb = _
   rw [this]
   rfl
  clear h45
  go_wp2_with fail
  refine (Num_any ((v : Int)) _).mono ?_
  rintro e w9 ⟨rfl, hb9⟩
  obtain ⟨x0, x1, x2, x3, x4, x5, x6, x7⟩ := H7.out.six.after hb9
  have H9 : Hid (Keep rb w w9 ∧ Wk rb s t (n + 1) (0, 0) w9) := ⟨H7.out.keep.below hb9, H7.out.wk.below hb9⟩
  clear hb9 H7
  unfold dv
  go_wp2_with fail
  refine bodyPost_ret (v := dv ⟨1, (v : Int), ⟨#[]⟩, 0, 0, []⟩ none 0) (by simp [results, Tryz.results85, go_sem, dv, x1, x2, x3, x4, x5, x6]) rfl ?_
  rw [HRES.out, HNB2.out]
  exact ⟨keep_six H9.out.1 (Nat.le_refl _) _ _ _ _ _ _, H9.out.2.six hN _ _ _ _ _ _, none, 0, 0, rfl, rfl⟩
 have HKN : Hid (decide ((j : Int) < (s.size : Int)) = true) := decide_eq_true (by omega)
 have LJ : Hid (∀ w, Calls Tryz.prog 112 #[.int .u8 (s[j].toNat : Int)] w fun e w' => e = .returned (.bool (letB (s[j].toNat : Int))) ∧ Below w.heap.size w w') := fun w => letter_is s[j] w
 have HBJ : Hid _ := byteL_at (at_of hlt)
 by_cases hlj : letB (s[j].toNat : Int) = true
 ·rw [hlj] at LJ HBJ
  have HE2 : Hid ((j + 1) + (byteL (s.data.toList.drop (j + 1))).length = t) := by
   have := HE.out
   rw [HBJ.out, if_pos rfl] at this
   simp at this
   show _ = t
   omega
  clear hlj HBJ HE
  go_wp2_with fail
  have hq0 := HKN.out
  refine wp_region_quiet_tail 20 (by kernel_rfl) (by kernel_rfl) ?_
  simp only [List.take_succ_cons, List.take_zero, List.drop_succ_cons, List.drop_zero]
  repeat (go_big_quiet_step (fail))
  refine wpQuiet_nil ?_
  clear hq0
  go_wp2_with fail
  refine (LJ.out _).mono ?_
  rintro e w4 ⟨rfl, hb4⟩
  have H4 : Hid (Hd rb s j (n + 1) w w4) := (HD.out.more (Below.drew (Below.refl _ _))).more hb4
  have c0 := H4.out.wk.c0
  have c1 := H4.out.wk.c1
  have z1 := H4.out.wk.z 1
  clear hb4 HD LJ
  go_wp2_with fail
  go_roundg (s.size - (j + 1))
  case measure => omega
  case rel => exact ⟨j + 1, by omega, by omega, rfl, H4.out.move hN (j + 1) _ (by omega), HE2.out⟩
 have hlj' : letB (s[j].toNat : Int) = false := by simpa using hlj
 rw [hlj'] at LJ HBJ
 have HJT : Hid (j = t) := by
  have := HE.out
  rw [HBJ.out, if_neg (by simp)] at this
  exact this
 clear hlj hlj' HBJ HE
 go_wp2_with fail
 have hq0 := HKN.out
 refine wp_region_quiet_tail 20 (by kernel_rfl) (by kernel_rfl) ?_
 simp only [List.take_succ_cons, List.take_zero, List.drop_succ_cons, List.drop_zero]
 repeat (go_big_quiet_step (fail))
 refine wpQuiet_nil ?_
 clear hq0
 go_wp2_with fail
 refine (LJ.out _).mono ?_
 rintro e w4 ⟨rfl, hb4⟩
 have H4 : Hid (Hd rb s t (n + 1) w w4) := by
  rw [← HJT.out]
  exact (HD.out.more (Below.drew (Below.refl _ _))).more hb4
 clear hb4 HD LJ c0 c1 z1
 go_wp2_with fail
 have c0 := H4.out.wk.c0
 have c1 := H4.out.wk.c1
 go_quiet (fail)
 have H5 : Hid (Hd rb s t (n + 1) w (w4.drewN nq)) := H4.out.drewN nq
 generalize w4.drewN nq = w5 at H5 ⊢
 generalize s.extract i t = T at HTL HTZ HTB LK ⊢
 clear H4 c0 c1
 go_wp2_with fail
 refine (LK.out _).mono ?_
 rintro e w6 ⟨rfl, hb6⟩
 have H6 : Hid (Hd rb s t (n + 1) w w6) := H5.out.more hb6
 clear hb6 H5 LK
 by_cases hlk : looksB b = true
 rotate_left
 ·have hlk' : looksB b = false := by simpa using hlk
  rw [hlk']
  by_cases h20 : 20 < T.size
  ·have h20' : (20 : Int) < (T.size : Int) := by omega
   have HRES : Hid (wordAt b i (n + 1) = .inl (7, (i : Int))) := by
    show wordAt b i (n + 1) = .inl (7, (i : Int))
    unfold wordAt
    rw [if_neg (by rw [hlk']; simp), if_pos (by rw [← HTB.out.2]; exact h20)]
   go_wp2_with fail
   refine (stop_any rb s t (n + 1) 7 i _ H6.out.wk).mono ?_
   rintro e w7 ⟨rfl, hk7, hr7⟩
   have SY : Hid (Six w.heap.size w7) := H6.out.six.keep hk7 hN
   have H7 : Hid (Keep rb w w7 ∧ Wk rb s t (n + 1) (7, (i : Int)) w7) := ⟨H6.out.keep.trans hk7, hr7⟩
   clear hk7 hr7 H6
   go_wp2_with fail
   refine (Sym_any T _).mono ?_
   rintro e w8 ⟨rfl, hb8⟩
   obtain ⟨x0, x1, x2, x3, x4, x5, x6, x7⟩ := SY.out.after hb8
   have H8 : Hid (Keep rb w w8 ∧ Wk rb s t (n + 1) (7, (i : Int)) w8) := ⟨H7.out.1.below hb8, H7.out.2.below hb8⟩
   clear hb8 H7 SY
   unfold dv
   go_wp2_with fail
   refine bodyPost_ret (v := dv ⟨3, 0, T, 0, 0, []⟩ none 0) (by simp [results, Tryz.results85, go_sem, dv, x1, x2, x3, x4, x5, x6]) rfl ?_
   rw [HRES.out]
   exact ⟨keep_six H8.out.1 (Nat.le_refl _) _ _ _ _ _ _, ⟨3, 0, T, 0, 0, []⟩, none, 0, rfl, t, n + 1, hts, H8.out.2.six hN _ _ _ _ _ _⟩
  have h20' : ¬ (20 : Int) < (T.size : Int) := by omega
  have HRES : Hid (wordAt b i (n + 1) = .inr (datSym b, t, n + 1)) := by
   show wordAt b i (n + 1) = .inr (datSym b, t, n + 1)
   unfold wordAt
   rw [if_neg (by rw [hlk']; simp), if_neg (by rw [← HTB.out.2]; exact h20), HTB.out.1]
  have HNM : Hid (datSym b = ⟨3, 0, T, 0, 0, []⟩) := by
   show datSym b = ⟨3, 0, T, 0, 0, []⟩
   unfold datSym
   rw [← HTL.out, bytes_same]
  go_wp2_with fail
  refine (Sym_any T _).mono ?_
  rintro e w8 ⟨rfl, hb8⟩
  obtain ⟨x0, x1, x2, x3, x4, x5, x6, x7⟩ := H6.out.six.after hb8
  have H8 : Hid (Keep rb w w8 ∧ Wk rb s t (n + 1) (0, 0) w8) := ⟨H6.out.keep.below hb8, H6.out.wk.below hb8⟩
  clear hb8 H6
  unfold dv
  go_wp2_with fail
  refine bodyPost_ret (v := dv ⟨3, 0, T, 0, 0, []⟩ none 0) (by simp [results, Tryz.results85, go_sem, dv, x1, x2, x3, x4, x5, x6]) rfl ?_
  rw [HRES.out, HNM.out]
  exact ⟨keep_six H8.out.1 (Nat.le_refl _) _ _ _ _ _ _, H8.out.2.six hN _ _ _ _ _ _, none, 0, 0, rfl, rfl⟩
 rw [hlk]
 by_cases h17 : 17 < T.size
 ·have h17' : (17 : Int) < (T.size : Int) := by omega
  have HRES : Hid (wordAt b i (n + 1) = .inl (3, (i : Int))) := by
   show wordAt b i (n + 1) = .inl (3, (i : Int))
   unfold wordAt
   rw [if_pos hlk, if_pos (by rw [← HTB.out.2]; exact h17)]
  clear hlk
  go_wp2_with fail
  refine (stop_any rb s t (n + 1) 3 i _ H6.out.wk).mono ?_
  rintro e w7 ⟨rfl, hk7, hr7⟩
  obtain ⟨x0, x1, x2, x3, x4, x5, x6, x7⟩ := H6.out.six.keep hk7 hN
  have H7 : Hid (Keep rb w w7 ∧ Wk rb s t (n + 1) (3, (i : Int)) w7) := ⟨H6.out.keep.trans hk7, hr7⟩
  clear hk7 hr7 H6
  go_wp2_with fail
  refine bodyPost_ret (v := dv dat0 none 0) (by simp [results, Tryz.results85, go_sem, dv, dat0, x1, x2, x3, x4, x5, x6]) rfl ?_
  rw [HRES.out]
  exact ⟨keep_six H7.out.1 (Nat.le_refl _) _ _ _ _ _ _, dat0, none, 0, rfl, t, n + 1, hts, H7.out.2.six hN _ _ _ _ _ _⟩
 have h17' : ¬ (17 : Int) < (T.size : Int) := by omega
 have hcv := fun w s => run_bytes_of_string (P := Tryz.prog) w 9 129 5 s Tryz.underlying9 Tryz.underlying129 Tryz.underlying5
 have HNB : Hid (∀ c, c ∈ b → numB c) := looks_num hlk
 have HLT : Hid (∀ k, k ≤ b.length → accN (b.take k) < 10 ^ k) := accN_lt b (looks_num hlk)
 have HLA : Hid (numOf b = if b.head? = some 45 then -((accN b : Nat) : Int) else ((accN b : Nat) : Int)) := looks_acc hlk
 have HRA : Hid (rangeB (numOf b) = decide (accN b ≤ 1000000000000000)) := range_acc hlk
 have hpos : 0 < T.size := by rw [HTB.out.2]; exact looks_ne hlk
 have HLK : Hid (looksB b = true) := hlk
 clear hlk
 have HWc : Hid (∀ j, j < T.size → ((w6.alloc (Obj.cells (bytesRow T (grownCap w6 T.size 0 5)) 5 ((bytesRow T (grownCap w6 T.size 0 5)).size, (bytesRow T (grownCap w6 T.size 0 5)).size + 1))).drew).cell? ⟨w6.heap.size, j, none⟩ = some (.int .u8 ((b[j]?.getD 0).toNat : Int))) := by
  intro j hj
  refine (World.cell?_alloc_mark w6 _ 5 _ j).trans ?_
  rw [bytesRow_at _ _ j hj, HTL.out]
 have H7 : Hid (Hd rb s t (n + 1) w ((w6.alloc (Obj.cells (bytesRow T (grownCap w6 T.size 0 5)) 5 ((bytesRow T (grownCap w6 T.size 0 5)).size, (bytesRow T (grownCap w6 T.size 0 5)).size + 1))).drew)) := H6.out.more (((Below.refl _ _).alloc (Nat.le_refl _) _).drew)
 go_wp2_with fail
 generalize ((w6.alloc (Obj.cells (bytesRow T (grownCap w6 T.size 0 5)) 5 ((bytesRow T (grownCap w6 T.size 0 5)).size, (bytesRow T (grownCap w6 T.size 0 5)).size + 1))).drew) = W at HWc H7 ⊢
 clear hcv H6
 go_loopw [10, 262] (fun nv iv wx => ∃ k : Nat, k ≤ T.size ∧ nv = .int .i64 ((accN (b.take k) : Nat) : Int) ∧ iv = .int .i64 (k : Int) ∧ wx = W) (fun _ iv _ => T.size - (intOf iv).toNat)
 case atStart => exact ⟨0, by omega, rfl, rfl, rfl⟩
 obtain ⟨k, hk, rfl, rfl, rfl⟩ := hrel
 by_cases hkt : k < T.size
 ·have hck := HWc.out k hkt
  have hklen : k < b.length := by rw [← HTB.out.2]; exact hkt
  have hacc := HLT.out k (by omega)
  have hp17 : (10 : Nat) ^ k ≤ 10 ^ 17 := Nat.pow_le_pow_right (by omega) (by omega)
  have hbig : accN (b.take k) < 100000000000000000 := by omega
  have HSN : Hid (accN (b.take (k + 1)) = if b[k]?.getD 0 = 45 then accN (b.take k) else 10 * accN (b.take k) + ((b[k]?.getD 0).toNat - 48)) := by
   show accN (b.take (k + 1)) = _
   rw [take_snoc' b k hklen, accN_snoc]
  have HNK : Hid (numB (b[k]?.getD 0)) := HNB.out _ (by rw [List.getElem?_eq_getElem hklen]; exact List.getElem_mem _)
  generalize b[k]?.getD 0 = c at hck HSN HNK
  generalize accN (b.take k) = v at hbig HSN ⊢
  clear hacc hp17
  by_cases h45 : c = 45
  ·have m45 : ((c.toNat : Int) != 45) = false := by rw [h45]; rfl
   have HV : Hid (accN (b.take (k + 1)) = v) := by
    have := HSN.out
    rw [if_pos h45] at this
    exact this
   clear h45
   go_wp2_with fail
   go_roundw
   case rel => exact ⟨k + 1, by omega, by rw [HV.out], by go_num, trivial⟩
   case measure => simp [intOf]; omega
  have m45 : ((c.toNat : Int) != 45) = true := by
   have e45 : ((c.toNat : Int) == 45) = false := by rw [show ((45 : Int)) = ((45 : UInt8).toNat : Int) from rfl, byte_is]; simpa using h45
   simp only [bne, e45]; rfl
  have HV : Hid (accN (b.take (k + 1)) = 10 * v + (c.toNat - 48)) := by
   have := HSN.out
   rw [if_neg h45] at this
   exact this
  have hc2 : 48 ≤ c.toNat ∧ c.toNat ≤ 57 := by
   rcases HNK.out with e | e
   ·exact absurd e h45
   exact e
  obtain ⟨hc3, hc4⟩ := hc2
  clear h45 HSN HNK
  go_wp2_with fail
  go_roundw
  case rel =>
   refine ⟨k + 1, by omega, ?_, by go_num, trivial⟩
   rw [HV.out]
   congr 1
   omega
  case measure => simp [intOf]; omega
 obtain rfl : k = T.size := by omega
 have HFULL : Hid (b.take T.size = b) := List.take_of_length_le (by rw [← HTB.out.2]; exact Nat.le_refl _)
 rw [HFULL.out]
 have hg0 := get_at T 0 0 rfl hpos
 have HHD : Hid (b.head? = some T[0]) := by
  show b.head? = some T[0]
  rw [← HTL.out, List.head?_eq_getElem?]
  exact at_of hpos
 have hvb : accN b < 100000000000000000 := by
  have h1 := HLT.out b.length (Nat.le_refl _)
  rw [List.take_length] at h1
  have h2 : (10 : Nat) ^ b.length ≤ 10 ^ 17 := Nat.pow_le_pow_right (by omega) (by rw [← HTB.out.2]; omega)
  omega
 have HWO : Hid (wordAt b i (n + 1) = if accN b ≤ 1000000000000000 then .inr (datNum (numOf b), t, n + 1) else .inl (3, (i : Int))) := by
  show wordAt b i (n + 1) = _
  unfold wordAt
  rw [if_pos HLK.out, if_neg (by rw [← HTB.out.2]; exact h17), HRA.out, HTB.out.1]
  by_cases hx : accN b ≤ 1000000000000000
  ·rw [if_pos (by simpa using hx), if_pos hx]
  rw [if_neg (by simpa using hx), if_neg hx]
 rw [HHD.out] at HLA
 generalize numOf b = nb at HLA HWO
 generalize accN b = v at hvb HLA HWO ⊢
 by_cases hbig : 1000000000000000 < v
 ·have hb' : (1000000000000000 : Int) < (v : Int) := by omega
  have HRES : Hid (wordAt b i (n + 1) = .inl (3, (i : Int))) := by
   have := HWO.out
   rw [if_neg (by omega)] at this
   exact this
  clear HWO HLA
  go_wp2_with fail
  refine (stop_any rb s t (n + 1) 3 i _ H7.out.wk).mono ?_
  rintro e w8 ⟨rfl, hk8, hr8⟩
  have SY : Hid (Six w.heap.size w8) := H7.out.six.keep hk8 hN
  have H8 : Hid (Keep rb w w8 ∧ Wk rb s t (n + 1) (3, (i : Int)) w8) := ⟨H7.out.keep.trans hk8, hr8⟩
  clear hk8 hr8 H7 HWc
  by_cases h45 : T[0] = 45
  ·have e45 : ((T[0].toNat : Int) == 45) = true := by rw [h45]; rfl
   clear h45
   go_wp2_with fail
   refine (Num_any (-(v : Int)) _).mono ?_
   rintro e w9 ⟨rfl, hb9⟩
   obtain ⟨x0, x1, x2, x3, x4, x5, x6, x7⟩ := SY.out.after hb9
   have H9 : Hid (Keep rb w w9 ∧ Wk rb s t (n + 1) (3, (i : Int)) w9) := ⟨H8.out.1.below hb9, H8.out.2.below hb9⟩
   clear hb9 H8 SY
   unfold dv
   go_wp2_with fail
   refine bodyPost_ret (v := dv ⟨1, -(v : Int), ⟨#[]⟩, 0, 0, []⟩ none 0) (by simp [results, Tryz.results85, go_sem, dv, x1, x2, x3, x4, x5, x6]) rfl ?_
   rw [HRES.out]
   exact ⟨keep_six H9.out.1 (Nat.le_refl _) _ _ _ _ _ _, ⟨1, -(v : Int), ⟨#[]⟩, 0, 0, []⟩, none, 0, rfl, t, n + 1, hts, H9.out.2.six hN _ _ _ _ _ _⟩
  have e45 : ((T[0].toNat : Int) == 45) = false := by rw [show ((45 : Int)) = ((45 : UInt8).toNat : Int) from rfl, byte_is]; simpa using h45
  clear h45
  go_wp2_with fail
  refine (Num_any ((v : Int)) _).mono ?_
  rintro e w9 ⟨rfl, hb9⟩
  obtain ⟨x0, x1, x2, x3, x4, x5, x6, x7⟩ := SY.out.after hb9
  have H9 : Hid (Keep rb w w9 ∧ Wk rb s t (n + 1) (3, (i : Int)) w9) := ⟨H8.out.1.below hb9, H8.out.2.below hb9⟩
  clear hb9 H8 SY
  unfold dv
  go_wp2_with fail
  refine bodyPost_ret (v := dv ⟨1, (v : Int), ⟨#[]⟩, 0, 0, []⟩ none 0) (by simp [results, Tryz.results85, go_sem, dv, x1, x2, x3, x4, x5, x6]) rfl ?_
  rw [HRES.out]
  exact ⟨keep_six H9.out.1 (Nat.le_refl _) _ _ _ _ _ _, ⟨1, (v : Int), ⟨#[]⟩, 0, 0, []⟩, none, 0, rfl, t, n + 1, hts, H9.out.2.six hN _ _ _ _ _ _⟩
 have hb' : ¬ (1000000000000000 : Int) < (v : Int) := by omega
 have HRES : Hid (wordAt b i (n + 1) = .inr (datNum nb, t, n + 1)) := by
  have := HWO.out
  rw [if_pos (by omega)] at this
  exact this
 clear HWO HWc
 by_cases h45 : T[0] = 45
 ·have e45 : ((T[0].toNat : Int) == 45) = true := by rw [h45]; rfl
  have HNB2 : Hid (datNum nb = ⟨1, -(v : Int), ⟨#[]⟩, 0, 0, []⟩) := by
   have := HLA.out
   rw [h45, if_pos rfl] at this
   show datNum nb = _
   rw [this]
   rfl
  clear h45
  go_wp2_with fail
  refine (Num_any (-(v : Int)) _).mono ?_
  rintro e w9 ⟨rfl, hb9⟩
  obtain ⟨x0, x1, x2, x3, x4, x5, x6, x7⟩ := H7.out.six.after hb9
  have H9 : Hid (Keep rb w w9 ∧ Wk rb s t (n + 1) (0, 0) w9) := ⟨H7.out.keep.below hb9, H7.out.wk.below hb9⟩
  clear hb9 H7
  unfold dv
  go_wp2_with fail
  refine bodyPost_ret (v := dv ⟨1, -(v : Int), ⟨#[]⟩, 0, 0, []⟩ none 0) (by simp [results, Tryz.results85, go_sem, dv, x1, x2, x3, x4, x5, x6]) rfl ?_
  rw [HRES.out, HNB2.out]
  exact ⟨keep_six H9.out.1 (Nat.le_refl _) _ _ _ _ _ _, H9.out.2.six hN _ _ _ _ _ _, none, 0, 0, rfl, rfl⟩
 have e45 : ((T[0].toNat : Int) == 45) = false := by rw [show ((45 : Int)) = ((45 : UInt8).toNat : Int) from rfl, byte_is]; simpa using h45
 have HNB2 : Hid (datNum nb = ⟨1, (v : Int), ⟨#[]⟩, 0, 0, []⟩) := by
  have := HLA.out
  rw [if_neg (by simpa using h45)] at this
  show datNum nb = _
  rw [this]
  rfl
 clear h45
 go_wp2_with fail
 refine (Num_any ((v : Int)) _).mono ?_
 rintro e w9 ⟨rfl, hb9⟩
 obtain ⟨x0, x1, x2, x3, x4, x5, x6, x7⟩ := H7.out.six.after hb9
 have H9 : Hid (Keep rb w w9 ∧ Wk rb s t (n + 1) (0, 0) w9) := ⟨H7.out.keep.below hb9, H7.out.wk.below hb9⟩
 clear hb9 H7
 unfold dv
 go_wp2_with fail
 refine bodyPost_ret (v := dv ⟨1, (v : Int), ⟨#[]⟩, 0, 0, []⟩ none 0) (by simp [results, Tryz.results85, go_sem, dv, x1, x2, x3, x4, x5, x6]) rfl ?_
 rw [HRES.out, HNB2.out]
 exact ⟨keep_six H9.out.1 (Nat.le_refl _) _ _ _ _ _ _, H9.out.2.six hN _ _ _ _ _ _, none, 0, 0, rfl, rfl⟩
end Go.Proofs.YtonafbennobgdaaGreatDoor.R1
