/- Chapter 3: what is around: files, features, libraries, in memory; what a file has. -/
import Derived.Test.YtonafbennobgdaaGreatDoorK02
import Derived.Test.YtonafbennobgdaaGreatDoorK17
import Derived.Test.YtonafbennobgdaaGreatDoorK23
import Derived.Test.YtonafbennobgdaaGreatDoorK24
namespace Go.Proofs.YtonafbennobgdaaGreatDoor
set_option linter.unusedVariables false
set_option linter.unusedSimpArgs false
set_option maxRecDepth 100000
set_option maxHeartbeats 6400000
open Go.RowKit
theorem join_eq : ∀ (l : List ByteArray), Lib.join (l.map (·.data.toList)) [32] = joinL l
 | [] => rfl
 | [x] => by simp [Lib.join, joinL]
 | x :: y :: r => by
  have := join_eq (y :: r)
  unfold Lib.join at this ⊢
  rw [joinL, ← this]
  simp [List.intercalate, List.intersperse]
theorem joinL_len : ∀ (l : List ByteArray), (∀ x ∈ l, x.size ≤ 20) → (joinL l).length ≤ 21 * l.length
 | [], _ => Nat.le_refl _
 | [x], h => by
  have := h x (by simp)
  rw [joinL]
  show x.data.toList.length ≤ _
  rw [Array.length_toList]
  have e : x.data.size = x.size := rfl
  simp
  omega
 | x :: y :: r, h => by
  have h1 := h x (by simp)
  have h2 := joinL_len (y :: r) (fun z hz => h z (by simp at hz ⊢; exact Or.inr hz))
  rw [joinL, List.length_append, List.length_cons, Array.length_toList]
  have e : x.data.size = x.size := rfl
  simp at h2 ⊢
  omega
theorem joinOk : JoinOk := fun B l v w hv hB hl hs => by
 have hj : (Lib.join (l.map (·.data.toList)) [32]).length ≤ 140737488355328 := by
  rw [join_eq]
  have := joinL_len l hs
  omega
 by_cases h0 : l = []
 ·subst h0
  obtain ⟨a, c, rfl, _⟩ := own_sliceL hv
  exact (Tryz.strings_Join_none a c ⟨#[32]⟩ w).mono (by rintro e w' ⟨rfl, rfl⟩; exact ⟨rfl, Below.refl _ _⟩)
 obtain ⟨g, cap, rfl, h1, h2, h3, _, h4⟩ := StrR.at hv (List.length_pos_iff.2 h0)
 refine (Tryz.strings_Join g 0 cap l ⟨#[32]⟩ w (fun j x hx => by rw [Nat.zero_add]; exact h4 j x hx) h3 (by omega) h1 hj).mono ?_
 rintro e w' ⟨rfl, hb⟩
 refine ⟨?_, hb⟩
 rw [show (⟨#[32]⟩ : ByteArray).data.toList = [32] from rfl, join_eq]
 rfl
theorem Dw.dc {ok : Nat → Prop} {w : World} : ∀ (f : Nat) (a : Option Addr) (cp : Nat) (ds : List Dat), Dw ok w f a cp ds → Dc ok w f a ds
 | 0, _, _, _, h => h
 | f + 1, a, cp, ds, h => by
  obtain ⟨⟨hl, hc⟩, h⟩ := h
  refine ⟨hl, ?_⟩
  rcases h with h | ⟨b, o, ha, hb, h⟩
  ·exact Or.inl h
  refine Or.inr ⟨b, o, ha, hb, fun i d hd => ?_⟩
  obtain ⟨a', cap, c0, c1, c2, c3, c4, c5, hn, hk⟩ := h i d hd
  exact ⟨a', cap, c0, c1, c2, c3, c4, c5, hn, hk.cap, Dw.dc f a' cap _ hk⟩
def FL (ok : Nat → Prop) (l : List (ByteArray × ByteArray)) (v : Value) (w : World) : Prop := ∃ a c, v = .slice a l.length c ∧ (l = [] ∨ ∃ b o, a = some ⟨b, o, none⟩ ∧ ok b ∧ ∀ j p, l[j]? = some p → w.cell? ⟨b, o + j * 2, none⟩ = some (.string p.1) ∧ w.cell? ⟨b, o + j * 2 + 1, none⟩ = some (.string p.2) ∧ p.2.size ≤ maxLen)
theorem FL.stay {ok ok' : Nat → Prop} {w w' : World} {l : List (ByteArray × ByteArray)} {v : Value} (h : FL ok l v w) (hw : ∀ k, ok k → w'.heap[k]? = w.heap[k]?) (ho : ∀ k, ok k → ok' k) : FL ok' l v w' := by
 obtain ⟨a, c, h1, h3⟩ := h
 refine ⟨a, c, h1, ?_⟩
 rcases h3 with h3 | ⟨b, o, h4, h5, h6⟩
 ·exact Or.inl h3
 refine Or.inr ⟨b, o, h4, ho b h5, fun j p hj => ?_⟩
 obtain ⟨q1, q2, q3⟩ := h6 j p hj
 exact ⟨(World.cell?_of_block (a := ⟨b, o + j * 2, none⟩) (hw b h5)).trans q1, (World.cell?_of_block (a := ⟨b, o + j * 2 + 1, none⟩) (hw b h5)).trans q2, q3⟩
structure EnvM (A : Nat) (E : Env) (f1 f2 f3 : Value) (w : World) : Prop where
 fl : FL (fun k => k < A) E.files f1 w
 fe : SV (fun k => k < A) E.features f2 w
 li : SV (fun k => k < A) E.libs f3 w
 few : E.files.length ≤ 30
 feL : E.features.length ≤ 9223372036854775807
 liL : E.libs.length ≤ 9223372036854775807
theorem EnvM.below {A : Nat} {E : Env} {f1 f2 f3 : Value} {w w' : World} (h : EnvM A E f1 f2 f3 w) (hb : Below A w w') : EnvM A E f1 f2 f3 w' :=
 ⟨h.fl.stay (fun k hk => hb.block k hk) (fun _ h => h), h.fe.stay (fun k hk => hb.block k hk) (fun _ h => h), h.li.stay (fun k hk => hb.block k hk) (fun _ h => h), h.few, h.feL, h.liL⟩
theorem file_eq (x y nm : ByteArray) (eb : Nat) (w : World) (he : w.cell? ⟨eb, 0, none⟩ = some (.string nm)) (hl : eb < w.heap.size) : Calls Tryz.prog 147 #[.agg #[.string x, .string y], .pointer (some ⟨eb, 0, none⟩)] w fun e w' => e = .returned (.bool (decide (x = nm))) ∧ Below w.heap.size w w' := by
 have hb : Below w.heap.size w (w.alloc (.cells #[.string x, .string y] 49)) := (Below.refl _ _).alloc (Nat.le_refl _) _
 have e1 : (w.alloc (.cells #[.string x, .string y] 49)).cell? ⟨eb, 0, none⟩ = some (.string nm) := (hb.cell (p := ⟨eb, 0, none⟩) hl).trans he
 have HB := hidd hb
 clear hb he
 by_cases h : x = nm
 ·have c : (x.toList == nm.toList) = true := by rw [h]; simp
  rw [decide_eq_true h]
  clear h
  go_enter Tryz.func147, Tryz.ntmps147
  go_wp2_with fail
  go_ret
  exact ⟨rfl, HB.out⟩
 have c := beqS_ne h
 rw [decide_eq_false h]
 clear h
 go_enter Tryz.func147, Tryz.ntmps147
 go_wp2_with fail
 go_ret
 exact ⟨rfl, HB.out⟩
theorem fileF_at {fs : List (ByteArray × ByteArray)} {j : Nat} {p : ByteArray × ByteArray} {nm : ByteArray} (h : fs[j]? = some p) : fileF nm (fs.drop j) = if p.1 = nm then some p.2 else fileF nm (fs.drop (j + 1)) := by
 obtain ⟨hi, e⟩ := List.getElem?_eq_some_iff.1 h
 rw [List.drop_eq_getElem_cons hi, e, fileF]
theorem fileIndex_any (B : Nat) (fs : List (ByteArray × ByteArray)) (nm : ByteArray) (fv : Value) (eb : Nat) (w : World) (hB : B ≤ w.heap.size) (hn : fs.length ≤ 30) (hl : FL (fun k => k < B) fs fv w) (he : w.cell? ⟨eb, 0, none⟩ = some (.string nm)) (hlt : eb < w.heap.size) :
 Calls Tryz.prog 146 #[fv, .func (.func 147) #[] #[.pointer (some ⟨eb, 0, none⟩)]] w fun e w' => Below w.heap.size w w' ∧ ∃ k : Int, e = .returned (.int .i64 k) ∧ ((k = -1 ∧ fileF nm fs = none) ∨ ∃ (j : Nat) (p : ByteArray × ByteArray), k = j ∧ fs[j]? = some p ∧ fileF nm fs = some p.2) := by
 have HEQ : Hid (∀ x y W, Below w.heap.size w W → Calls Tryz.prog 147 #[.agg #[.string x, .string y], .pointer (some ⟨eb, 0, none⟩)] W fun e w' => e = .returned (.bool (decide (x = nm))) ∧ Below W.heap.size W w') := fun x y W hb => file_eq x y nm eb W ((hb.cell (p := ⟨eb, 0, none⟩) hlt).trans he) (Nat.lt_of_lt_of_le hlt hb.size)
 obtain ⟨a, cap, rfl, hl⟩ := hl
 have HR : Hid (∀ W j p, Below w.heap.size w W → fs[j]? = some p → ∃ b o, a = some ⟨b, o, none⟩ ∧ W.cell? ⟨b, o + j * 2, none⟩ = some (.string p.1) ∧ W.cell? ⟨b, o + j * 2 + 1, none⟩ = some (.string p.2)) := fun W j p hb hj => by
  rcases hl with h0 | ⟨b, o, h1, h2, h3⟩
  ·rw [h0] at hj; simp at hj
  obtain ⟨q1, q2, _⟩ := h3 j p hj
  exact ⟨b, o, h1, (hb.cell (p := ⟨b, o + j * 2, none⟩) (Nat.lt_of_lt_of_le h2 hB)).trans q1, (hb.cell (p := ⟨b, o + j * 2 + 1, none⟩) (Nat.lt_of_lt_of_le h2 hB)).trans q2⟩
 have HL : Hid (∀ j, j < fs.length → ∃ d, fs[j]? = some d) := fun j hj => ⟨_, List.getElem?_eq_getElem hj⟩
 obtain ⟨n, hn'⟩ : ∃ n, n = fs.length := ⟨_, rfl⟩
 have HN := hidd hn'
 rw [← hn'] at hn HL ⊢
 clear hl he hlt hn' hB
 go_enter Tryz.func146, Tryz.ntmps146
 go_wp2_with fail
 go_loopw [5, 8] (fun _ ix wr => ∃ (j : Nat), j ≤ n ∧ ix = .int .i64 j ∧ Hid (Below w.heap.size w wr ∧ fileF nm fs = fileF nm (fs.drop j))) (fun _ ix _ => n - (intOf ix).toNat)
 case atStart => exact ⟨0, Nat.zero_le _, rfl, Below.refl _ _, by rw [List.drop_zero]⟩
 obtain ⟨j, hj, rfl, HI⟩ := hrel
 by_cases hlt : j < n
 rotate_left
 ·obtain rfl : j = n := by omega
  have HE : Hid (fileF nm fs = none) := by
   show _ = _
   rw [HI.out.2, List.drop_eq_nil_of_le (by rw [← HN.out]; exact Nat.le_refl _)]
   rfl
  go_wp2_with fail
  go_ret
  exact ⟨HI.out.1, -1, rfl, Or.inl ⟨rfl, HE.out⟩⟩
 obtain ⟨p, hp⟩ := HL.out j hlt
 obtain ⟨g, o, rfl, c0, c1⟩ := HR.out wr j p HI.out.1 hp
 have i1 : (0 : Int) ≤ (j : Int) := by omega
 have i2 : (j : Int) < (n : Int) := by omega
 have HC := hidd (HEQ.out p.1 p.2 wr HI.out.1)
 have HD := hidd (fileF_at (nm := nm) hp)
 have HP := hidd hp
 clear hp
 obtain ⟨p1, p2⟩ := p
 simp only at c0 c1 HC HD
 by_cases hq : p1 = nm
 ·rw [decide_eq_true hq] at HC
  rw [if_pos hq] at HD
  have HE : Hid (fileF nm fs = some p2) := by show _ = _; rw [HI.out.2, HD.out]
  clear hq
  go_wp2_with fail
  refine HC.out.mono ?_
  rintro e w2 ⟨rfl, hb2⟩
  have HB2 : Hid (Below w.heap.size w w2) := HI.out.1.trans (hb2.mono HI.out.1.size)
  clear hb2
  go_wp2_with fail
  go_ret
  exact ⟨HB2.out, j, rfl, Or.inr ⟨j, (p1, p2), rfl, HP.out, HE.out⟩⟩
 rw [decide_eq_false hq] at HC
 rw [if_neg hq] at HD
 have HE : Hid (fileF nm fs = fileF nm (fs.drop (j + 1))) := by show _ = _; rw [HI.out.2, HD.out]
 clear hq
 go_wp2_with fail
 refine HC.out.mono ?_
 rintro e w2 ⟨rfl, hb2⟩
 have HB2 : Hid (Below w.heap.size w w2) := HI.out.1.trans (hb2.mono HI.out.1.size)
 clear hb2
 go_wp2_with fail
 go_roundw
 case rel => exact ⟨j + 1, hlt, by go_num, HB2.out, HE.out⟩
 case measure => simp [intOf]; omega
def textF (E : Env) (n : ByteArray) : Er ByteArray := match fileF n E.files with
 | none => .no 6
 | some t => .ok t
theorem fileF_size {A : Nat} {E : Env} {f1 f2 f3 : Value} {w : World} (h : EnvM A E f1 f2 f3 w) {n t : ByteArray} (ht : fileF n E.files = some t) : t.size ≤ maxLen := by
 obtain ⟨a, c, h1, h3⟩ := h.fl
 rcases h3 with h3 | ⟨b, o, h4, h5, h6⟩
 ·rw [h3] at ht; cases ht
 have : ∀ (l : List (ByteArray × ByteArray)), (∀ p ∈ l, p.2.size ≤ maxLen) → fileF n l = some t → t.size ≤ maxLen := by
  intro l
  induction l with
  | nil => intro _ h; cases h
  | cons x r ih =>
   intro hl h
   rw [fileF] at h
   split at h
   ·cases h; exact hl x (by simp)
   exact ih (fun p hp => hl p (by simp [hp])) h
 refine this E.files (fun p hp => ?_) ht
 obtain ⟨j, hj, e⟩ := List.mem_iff_getElem.1 hp
 exact (h6 j p (by rw [List.getElem?_eq_getElem hj, e])).2.2
theorem fileText_any (A pb : Nat) (E : Env) (f1 f2 f3 : Value) (nm : ByteArray) (w : World) (hA : A ≤ w.heap.size) (hE : EnvM A E f1 f2 f3 w) (hp : w.cell? ⟨pb, 0, none⟩ = some f1) (hpl : pb < w.heap.size) :
 Calls Tryz.prog 131 #[.pointer (some ⟨pb, 0, none⟩), .string nm] w (ToldE (textF E nm) (fun t v _ => v = .string t) w) := by
 have hb : Below w.heap.size w (w.alloc (.cells #[.string nm] 9)) := (Below.refl _ _).alloc (Nat.le_refl _) _
 have hbx : (w.alloc (.cells #[.string nm] 9)).heap[w.heap.size]? = some (.cells #[.string nm] 9 (0, 0)) := World.alloc_heap_new _ _
 have HI := hidd (fileIndex_any A E.files nm f1 w.heap.size (w.alloc (.cells #[.string nm] 9)) (Nat.le_trans hA hb.size) hE.few (hE.fl.stay (fun k hk => hb.block k (Nat.lt_of_lt_of_le hk hA)) (fun _ h => h)) ((cellO hbx).trans rfl) (by simp))
 have HB := hidd hb
 have p0 : (w.alloc (.cells #[.string nm] 9)).cell? ⟨pb, 0, none⟩ = some f1 := (hb.cell (p := ⟨pb, 0, none⟩) hpl).trans hp
 have HP : Hid (∀ W, Below w.heap.size w W → W.cell? ⟨pb, 0, none⟩ = some f1) := fun W hb => (hb.cell (p := ⟨pb, 0, none⟩) hpl).trans hp
 have HEM : Hid (∀ W, Below w.heap.size w W → EnvM A E f1 f2 f3 W) := fun W hb => hE.below (hb.mono hA)
 have HY := hidd must_yes
 have HX := hidd must_no
 clear hb hbx hp hpl hE
 go_enter Tryz.func131, Tryz.ntmps131
 go_wp2_with fail
 refine HI.out.mono ?_
 rintro e w1 ⟨hb1, k, rfl, hk⟩
 have HB1 : Hid (Below w.heap.size w w1) := HB.out.trans (hb1.mono HB.out.size)
 clear hb1 HI
 rcases hk with ⟨rfl, hf⟩ | ⟨j, p, rfl, hj, hf⟩
 ·have HF : Hid (textF E nm = .no 6) := by show _ = _; unfold textF; rw [hf]
  clear hf
  go_wp2_with fail
  refine (HX.out _ _).mono ?_
  rintro e w2 ⟨rfl, rfl⟩
  go_wp2_with fail
  refine ⟨rfl, HB1.out, ?_⟩
  rw [HF.out]
 have HF : Hid (textF E nm = .ok p.2) := by show _ = _; unfold textF; rw [hf]
 have hem := HEM.out w1 HB1.out
 have q0 := HP.out w1 HB1.out
 have hfew := hem.few
 obtain ⟨a, c, hfl, hfc⟩ := hem.fl
 have hjl := (List.getElem?_eq_some_iff.1 hj).1
 rcases hfc with h0 | ⟨b, o, ha, hbA, hcell⟩
 ·rw [h0] at hj; simp at hj
 subst ha
 obtain ⟨c0, c1, _⟩ := hcell j p hj
 rw [hfl] at q0
 generalize hfn : E.files.length = fn at *
 have g1 : decide ((0 : Int) ≤ (j : Int)) = true := by simp
 have i1 : (0 : Int) ≤ (j : Int) := by omega
 have i2 : (j : Int) < (fn : Int) := by omega
 clear hf hj hcell hem hfl hfn
 go_wp2_with fail
 refine (HY.out _ _).mono ?_
 rintro e w2 ⟨rfl, rfl⟩
 go_wp2_with fail
 go_ret
 refine ⟨HB1.out, ?_⟩
 rw [HF.out]
 exact ⟨_, rfl, rfl⟩
open Go.RowKit
theorem items_err (g : Nat → Nat → Rd Dat) (l : List UInt8) (hg : ∀ i n x, g i n = .inl x → x.1 ≠ 0) : ∀ (k i n : Nat) (x : Int × Int), items g l k i n = .inl x → x.1 ≠ 0
 | 0, i, n, x, h => by simp [items] at h; subst h; simp
 | k + 1, i, n, x, h => by
  unfold items at h
  simp only at h
  split at h
  ·cases h; simp
  split at h
  ·cases h
  cases hgg : g (i + skipL (l.drop i) false) n with
  | inl e => rw [hgg] at h; cases h; exact hg _ _ _ hgg
  | inr y =>
   obtain ⟨d, j1, m1⟩ := y
   rw [hgg] at h
   simp only at h
   cases hii : items g l k j1 m1 with
   | inl e => rw [hii] at h; cases h; exact items_err g l hg k _ _ _ hii
   | inr z => rw [hii] at h; cases h
theorem one_err (l : List UInt8) : ∀ (f i n : Nat) (x : Int × Int), one l f i n = .inl x → x.1 ≠ 0
 | 0, i, n, x, h => by simp [one] at h; subst h; simp
 | f + 1, i, n, x, h => by
  unfold one at h
  split at h
  ·cases h; simp
  split at h
  ·cases h; simp
  split at h
  ·cases hit : items (one l f) l (l.length + 1) (i + 1) (n + 1) with
   | inl e => rw [hit] at h; cases h; exact items_err _ l (one_err l f) _ _ _ _ hit
   | inr y => rw [hit] at h; cases h
  split at h
  ·split at h
   ·cases h; simp
   cases ho : one l f (i + 1 + skipL (l.drop (i + 1)) false) (n + 2) with
   | inl e => rw [ho] at h; cases h; exact one_err l f _ _ _ ho
   | inr y => rw [ho] at h; cases h
  split at h
  ·split at h
   ·cases h
   split at h
   ·cases h
   cases h; simp
  split at h
  ·unfold wordAt at h
   split at h
   ·split at h
    ·cases h; simp
    split at h
    ·cases h
    cases h; simp
   split at h
   ·cases h; simp
   cases h
  cases h; simp
theorem alls_err (l : List UInt8) : ∀ (k i n : Nat) (x : Int × Int), alls l k i n = .inl x → x.1 ≠ 0
 | 0, i, n, x, h => by simp [alls] at h
 | k + 1, i, n, x, h => by
  unfold alls at h
  simp only at h
  split at h
  ·cases h
  cases hgg : one l 40 (i + skipL (l.drop i) false) n with
  | inl e => rw [hgg] at h; cases h; exact one_err l _ _ _ _ hgg
  | inr y =>
   obtain ⟨d, j1, m1⟩ := y
   rw [hgg] at h
   simp only at h
   cases hii : alls l k j1 m1 with
   | inl e => rw [hii] at h; cases h; exact alls_err l k _ _ _ hii
   | inr z => rw [hii] at h; cases h
theorem read_err {l : List UInt8} {x : Int × Int} (h : readL l = .inl x) : x.1 ≠ 0 := by
 unfold readL at h
 split at h
 ·cases h; decide
 cases ha : alls l (l.length + 1) 0 0 with
 | inl e => rw [ha] at h; cases h; exact alls_err l _ _ _ _ ha
 | inr y => rw [ha] at h; cases h
theorem PS.free {B pb : Nat} {f1 f2 f3 : Value} {s : LibS} {w w' : World} (h : PS B pb f1 f2 f3 s w) (hb : Below w.heap.size w w') {nm : ByteArray} {ex : List (ByteArray × ByteArray)} {is : List IE} {es : List (Dat × Option Addr × Nat)} {ev iv bv : Value} (h' : PSx B pb f1 f2 f3 nm ex is es ev iv bv w') {k : Nat} (h1 : w.heap.size ≤ k) (h2 : k < w'.heap.size) : Fre B pb ev iv bv w' k := by
 obtain ⟨is0, es0, ev0, iv0, bv0, h0, _⟩ := h
 have e := (h0.below hb).blk.symm.trans h'.blk
 simp at e
 obtain ⟨_, rfl, rfl, rfl⟩ := e
 exact h0.fresh h1 h2
theorem add_row {B pb : Nat} {f1 f2 f3 : Value} {s : LibS} {w w' : World} {v : Value} {es : List (Dat × Option Addr × Nat)} (h : PS B pb f1 f2 f3 s w) (hb : Below w.heap.size w w')
 (hown : w'.ownsRow w.heap.size 26 6 v es.length (flat es)) (hk : ∀ e ∈ es, e.1.name.size ≤ maxLen ∧ e.1.kids.length ≤ e.2.2 ∧ ∃ f, Dc (fun k => w.heap.size ≤ k ∧ k < w'.heap.size) w' f e.2.1 e.1.kids) (hs : s.body.length ≤ 200) (hn : es.length ≤ 2000) :
 Calls Tryz.prog 109 #[.pointer (some ⟨pb, 0, none⟩), v] w' (ToldP B pb f1 f2 f3 (addF (es.map (·.1)) s) w') := by
 have hp := h.below hb
 obtain ⟨a, c, rfl, hc⟩ := own_sliceL hown
 unfold addF
 rw [List.length_map]
 by_cases hm : s.body.length + es.length ≤ 200
 ·rw [if_pos hm]
  refine (add_ok B pb f1 f2 f3 s a es c w' hp hm ?_ ?_).mono (by rintro e w2 ⟨h1, rfl, h3⟩; exact ⟨h1, rfl, h3⟩)
  ·by_cases h0 : es.length = 0
   ·exact Or.inl h0
   refine Or.inr ?_
   obtain ⟨g, cap, he, _, _⟩ := World.ownsRow.form hown (by omega)
   cases he
   exact ⟨g, 0, rfl, fun j u hu => by
    have := World.ownsRow.cells hown (g := g) rfl j u hu
    rw [addr_add] at this
    rw [Nat.zero_add]
    exact this⟩
  intro ev iv bv is es' h' e he
  obtain ⟨k1, k2, f, k3⟩ := hk e he
  exact ⟨k1, k2, f, Dc.stay (fun _ _ => rfl) (fun k hk => h.free hb h' hk.1 hk.2) f _ _ k3⟩
 rw [if_neg hm]
 exact (add_many B pb f1 f2 f3 s a es.length c w' hp hs hn (by omega)).mono (by rintro e w2 ⟨h1, rfl⟩; exact ⟨h1.bt hp.hs, rfl⟩)
theorem textF_ok {E : Env} {n t : ByteArray} (h : textF E n = .ok t) : fileF n E.files = some t := by
 unfold textF at h
 cases hf : fileF n E.files with
 | none => rw [hf] at h; cases h
 | some z => rw [hf] at h; cases h; rfl
theorem own_base {w : World} {B B' t s n : Nat} {v : Value} {xs : List Value} (h : w.ownsRow B t s v n xs) (hb : B' ≤ B) : w.ownsRow B' t s v n xs := by
 refine ⟨h.1, ?_⟩
 rcases h.2 with h' | ⟨g, cap, cur, hv, hbg, r⟩
 ·exact Or.inl h'
 exact Or.inr ⟨g, cap, cur, hv, Nat.le_trans hb hbg, r⟩
theorem includeF_at {E : Env} {ds : List Dat} {j : Nat} {d : Dat} {s s' : LibS} (h : ds[j]? = some d) (hl : includeF E ds s = includeF E (ds.drop j) s') : includeF E ds s = (nameF d).bind fun n => (textF E n).bind fun t => match readL t.data.toList with
 | .inl x => .no x.1
 | .inr l => (addF l s').bind fun s2 => includeF E (ds.drop (j + 1)) s2 := by
 obtain ⟨hi, e⟩ := List.getElem?_eq_some_iff.1 h
 rw [hl, List.drop_eq_getElem_cons hi, e, includeF]
 congr 1
 funext n
 unfold textF
 cases fileF n E.files with
 | none => rfl
 | some t => rfl
set_option maxRecDepth 100000 in
set_option maxHeartbeats 12800000 in
theorem include_any (E : Env) (A B pb f : Nat) (f1 f2 f3 : Value) (s : LibS) (ds : List Dat) (a : Option Addr) (cap : Nat) (w : World) (hA : A ≤ B) (hE : EnvM A E f1 f2 f3 w) (hp : PS B pb f1 f2 f3 s w) (hd : Dc (fun k => k < A) w f a ds) (hn : ds.length ≤ 2000) (hc : ds.length ≤ cap) (ho : okL ds) (he : s.body.length ≤ 200) :
 Calls Tryz.prog 110 #[.pointer (some ⟨pb, 0, none⟩), .slice a ds.length cap] w (ToldP B pb f1 f2 f3 (includeF E ds s) w) := by
 have HD : Hid (∀ W j d, Below B w W → ds[j]? = some d → ∃ b o a' cap', a = some ⟨b, o, none⟩ ∧ DAt (fun k => k < A) W b (o + j * 6) d a' cap') := fun W j d hb hj => by
  obtain ⟨g, b, o, a', cap', h0, h1, h2, h3⟩ := hd.at hj
  exact ⟨b, o, a', cap', h1, h2.below (hb.mono hA)⟩
 have HO : Hid (∀ d ∈ ds, okD d) := okL_mem ho
 have HL : Hid (∀ j, j < ds.length → ∃ d, ds[j]? = some d) := fun j hj => ⟨_, List.getElem?_eq_getElem hj⟩
 obtain ⟨n, hn'⟩ : ∃ n, n = ds.length := ⟨_, rfl⟩
 have HN := hidd hn'
 rw [← hn'] at hn hc HL ⊢
 have HS : Hid (s.body.length ≤ 200) := he
 have HY := hidd must_yes
 have HX0 := hidd must_no
 have HP := hidd hp
 have HA : Hid (A ≤ B ∧ EnvM A E f1 f2 f3 w) := ⟨hA, hE⟩
 clear hp hd ho he hn' hA hE
 go_enter Tryz.func110, Tryz.ntmps110
 go_wp2_with fail
 go_loopw [5, 6, 7, 10] (fun _ _ _ ix wr => ∃ (j : Nat) (s' : LibS), j ≤ n ∧ ix = .int .i64 j ∧ Hid (BT B w wr ∧ PS B pb f1 f2 f3 s' wr ∧ includeF E ds s = includeF E (ds.drop j) s' ∧ s'.body.length ≤ 200)) (fun _ _ _ ix _ => n - (intOf ix).toNat)
 case atStart => exact ⟨0, s, Nat.zero_le _, rfl, BT.refl _ _, HP.out, by rw [List.drop_zero], HS.out⟩
 obtain ⟨j, s', hj, rfl, HR⟩ := hrel
 by_cases hlt : j < n
 rotate_left
 ·obtain rfl : j = n := by omega
  have HE : Hid (includeF E ds s = .ok s') := by
   show _ = _
   rw [HR.out.2.2.1, List.drop_eq_nil_of_le (by rw [← HN.out]; exact Nat.le_refl _), includeF]
  go_wp2_with fail
  go_end0
  refine ⟨HR.out.1, ?_⟩
  rw [HE.out]
  exact ⟨rfl, HR.out.2.1⟩
 obtain ⟨d, hdj⟩ := HL.out j hlt
 obtain ⟨b, o, a', cap', rfl, hA⟩ := HD.out wr j d HR.out.1.toBelow hdj
 obtain ⟨_, c0, c1, c2, c3, c4, c5, hnm, hlk⟩ := hA
 have i1 : (0 : Int) ≤ (j : Int) := by omega
 have i2 : (j : Int) < (n : Int) := by omega
 have HB1 : Hid (Below wr.heap.size wr (wr.alloc (.cells #[.int .i64 d.kind, .int .i64 d.n, .string d.name, .int .i64 d.stamp, .int .i64 d.lib, .slice a' d.kids.length cap'] 26))) := (Below.refl _ _).alloc (Nat.le_refl _) _
 have hBr : B ≤ wr.heap.size := PS.hs HR.out.2.1
 have NM0 := nameOf_any d a' cap'
 have hod := okD_big (HO.out d (List.mem_of_getElem? hdj))
 have hst := includeF_at hdj HR.out.2.2.1
 unfold dv at NM0
 clear hdj hnm hlk
 generalize d.kids.length = kn at *
 have HBr := hidd hBr
 clear hBr
 cases hE : nameF d with
 | no x =>
  rw [hE] at NM0 hst
  have NM : Hid (∀ W, Calls Tryz.prog 78 #[.agg #[.int .i64 d.kind, .int .i64 d.n, .string d.name, .int .i64 d.stamp, .int .i64 d.lib, .slice a' kn cap']] W fun e w' => Below W.heap.size W w' ∧ e = .panicked (thrownL x)) := fun W => NM0 W hod
  have HST : Hid (includeF E ds s = .no x) := hst
  clear NM0 hst hE hod
  go_wp2_with fail
  refine (NM.out _).mono ?_
  rintro e w2 ⟨hb2, rfl⟩
  have HB2 : Hid (BT B w w2) := HR.out.1.trans ((HB1.out.trans (hb2.mono HB1.out.size)).bt HBr.out)
  clear hb2
  go_wp2_with fail
  refine ⟨rfl, HB2.out, ?_⟩
  rw [HST.out]
 | ok nm =>
  rw [hE] at NM0 hst
  have NM : Hid (∀ W, Calls Tryz.prog 78 #[.agg #[.int .i64 d.kind, .int .i64 d.n, .string d.name, .int .i64 d.stamp, .int .i64 d.lib, .slice a' kn cap']] W fun e w' => Below W.heap.size W w' ∧ ∃ v, e = .returned v ∧ v = .string nm) := fun W => NM0 W hod
  have HST : Hid (includeF E ds s = (textF E nm).bind fun t => match readL t.data.toList with
   | .inl x => .no x.1
   | .inr l => (addF l s').bind fun s2 => includeF E (ds.drop (j + 1)) s2) := hst
  clear NM0 hst hE hod
  go_wp2_with fail
  refine (NM.out _).mono ?_
  rintro e w2 ⟨hb2, v, rfl, rfl⟩
  have HB2 : Hid (Below wr.heap.size wr w2) := HB1.out.trans (hb2.mono HB1.out.size)
  have HP2 := hidd (HR.out.2.1.below HB2.out)
  have HT0 : ∀ r, textF E nm = r → Calls Tryz.prog 131 #[.pointer (some ⟨pb, 0, none⟩), .string nm] w2 (ToldE r (fun t v _ => v = .string t) w2) := fun r hr => by
   rw [← hr]
   obtain ⟨is, es, ev, iv, bv, h1, _⟩ := HP2.out
   exact fileText_any A pb E f1 f2 f3 nm w2 (Nat.le_trans HA.out.1 (Nat.le_trans HBr.out HB2.out.size)) (HA.out.2.below ((HR.out.1.toBelow.trans (HB2.out.mono HBr.out)).mono HA.out.1)) ((cellO h1.blk).trans rfl) (Array.getElem?_eq_some_iff.1 h1.blk).1
  clear hb2 NM HB1
  cases hT : textF E nm with
  | no x =>
   have TX : Hid (Calls Tryz.prog 131 #[.pointer (some ⟨pb, 0, none⟩), .string nm] w2 fun e w' => Below w2.heap.size w2 w' ∧ e = .panicked (thrownL x)) := HT0 _ hT
   rw [hT] at HST
   have HST' : Hid (includeF E ds s = .no x) := HST.out
   clear HT0 hT HST
   go_wp2_with fail
   refine TX.out.mono ?_
   rintro e w3 ⟨hb3, rfl⟩
   have HB3 : Hid (BT B w w3) := HR.out.1.trans ((HB2.out.trans (hb3.mono HB2.out.size)).bt HBr.out)
   clear hb3
   go_wp2_with fail
   refine ⟨rfl, HB3.out, ?_⟩
   rw [HST'.out]
  | ok t =>
   have TX : Hid (Calls Tryz.prog 131 #[.pointer (some ⟨pb, 0, none⟩), .string nm] w2 fun e w' => Below w2.heap.size w2 w' ∧ ∃ v, e = .returned v ∧ v = .string t) := HT0 _ hT
   have HTS : Hid (t.size ≤ maxLen) := fileF_size HA.out.2 (textF_ok hT)
   rw [hT] at HST
   have HST' : Hid (includeF E ds s = match readL t.data.toList with
    | .inl x => .no x.1
    | .inr l => (addF l s').bind fun s2 => includeF E (ds.drop (j + 1)) s2) := HST.out
   clear HT0 hT HST
   go_wp2_with fail
   refine TX.out.mono ?_
   rintro e w3 ⟨hb3, v, rfl, rfl⟩
   have HB3 : Hid (Below wr.heap.size wr w3) := HB2.out.trans (hb3.mono HB2.out.size)
   have HP3 := hidd (HR.out.2.1.below HB3.out)
   have RD0 : ∀ r, readL t.data.toList = r → Calls Tryz.prog 17 #[.string t] w3 (OutS r w3) := fun r hr => by rw [← hr]; exact Read_row t w3 HTS.out
   clear hb3 TX HP2
   cases hr : readL t.data.toList with
   | inl x =>
    have RD : Hid (Calls Tryz.prog 17 #[.string t] w3 fun e w' => Below w3.heap.size w3 w' ∧ e = .returned (.tuple #[.slice none 0 0, .agg #[.int .i64 x.1, .int .i64 x.2]])) := RD0 _ hr
    have hx0 := read_err hr
    rw [hr] at HST'
    have HST2 : Hid (includeF E ds s = .no x.1) := HST'.out
    have x0 : (x.1 == 0) = false := by simpa using hx0
    clear RD0 hr HST' hx0
    go_wp2_with fail
    refine RD.out.mono ?_
    rintro e w4 ⟨hb4, rfl⟩
    have HB4 : Hid (BT B w (w4.alloc (.cells #[.int .i64 x.1, .int .i64 x.2] 40))) := HR.out.1.trans (((HB3.out.trans (hb4.mono HB3.out.size)).alloc (Nat.le_trans HB3.out.size hb4.size) _).bt HBr.out)
    clear hb4 RD
    go_wp2_with fail
    refine (HX0.out _ _).mono ?_
    rintro e w5 ⟨rfl, rfl⟩
    go_wp2_with fail
    refine ⟨rfl, HB4.out, ?_⟩
    rw [HST2.out]
   | inr l =>
    have RD : Hid (Calls Tryz.prog 17 #[.string t] w3 fun e w' => Below w3.heap.size w3 w' ∧ ∃ v es, e = .returned (.tuple #[v, .agg #[.int .i64 0, .int .i64 0]]) ∧ es.map (·.1) = l ∧ es.length ≤ 2000 ∧ ∃ B, w3.heap.size ≤ B ∧ Row B v es w') := RD0 _ hr
    rw [hr] at HST'
    have HST2 : Hid (includeF E ds s = (addF l s').bind fun s2 => includeF E (ds.drop (j + 1)) s2) := HST'.out
    clear RD0 hr HST'
    go_wp2_with fail
    refine RD.out.mono ?_
    rintro e w4 ⟨hb4, v, es, rfl, hes, hen, B4, hB4, hrow⟩
    have hb5 : Below w3.heap.size w3 (w4.alloc (.cells #[.int .i64 0, .int .i64 0] 40)) := hb4.alloc hb4.size _
    have hb45 : Below w4.heap.size w4 (w4.alloc (.cells #[.int .i64 0, .int .i64 0] 40)) := (Below.refl _ _).alloc (Nat.le_refl _) _
    have AD := hidd (add_row (v := v) (es := es) HP3.out hb5 (own_base (own_below hrow.own hb45) hB4) (fun e he => by
     obtain ⟨k1, f, k2⟩ := hrow.kids e he
     exact ⟨k1, k2.cap, f, Dc.stay (fun k hk => hb45.block k hk.2.1) (fun k hk => ⟨Nat.le_trans hB4 hk.1, Nat.lt_of_lt_of_le hk.2.1 hb45.size⟩) f _ _ (Dw.dc f _ _ _ k2)⟩) HR.out.2.2.2 hen)
    obtain ⟨va, vn, vc, hv⟩ : ∃ va vn vc, v = .slice va vn vc := by
     rcases hrow.own.2 with ⟨hv, _⟩ | ⟨gg, cap, cur, hv, _⟩
     ·exact ⟨_, _, _, hv⟩
     exact ⟨_, _, _, hv⟩
    subst hv
    have HB5 : Hid (BT B w (w4.alloc (.cells #[.int .i64 0, .int .i64 0] 40))) := HR.out.1.trans ((HB3.out.trans (hb5.mono HB3.out.size)).bt HBr.out)
    rw [hes] at AD
    have z0 : ((0 : Int) == 0) = true := rfl
    clear hb4 hb5 hb45 hes hrow hB4 RD hen
    go_wp2_with fail
    refine (HY.out _ _).mono ?_
    rintro e w5 ⟨rfl, hw5⟩
    rw [hw5]
    clear hw5
    go_wp2_with fail
    refine AD.out.mono ?_
    rintro e w6 ⟨hb6, hr6⟩
    have HB6 : Hid (BT B w w6) := HB5.out.trans hb6
    clear hb6 AD
    cases hF : addF l s' with
    | no x =>
     rw [hF] at hr6 HST2
     have hr6' : e = .panicked (thrownL x) := hr6
     subst hr6'
     have HST3 : Hid (includeF E ds s = .no x) := HST2.out
     clear hr6 HST2 hF
     go_wp2_with fail
     refine ⟨rfl, HB6.out, ?_⟩
     rw [HST3.out]
    | ok s2 =>
     have hl2 : s2.body.length ≤ 200 := by
      unfold addF at hF
      split at hF
      ·cases hF; simpa using ‹_›
      cases hF
     rw [hF] at hr6 HST2
     have hr6' : e = .returned (.tuple #[]) ∧ PS B pb f1 f2 f3 s2 w6 := hr6
     obtain ⟨rfl, hp6⟩ := hr6'
     have HF : Hid (PS B pb f1 f2 f3 s2 w6 ∧ includeF E ds s = includeF E (ds.drop (j + 1)) s2 ∧ s2.body.length ≤ 200) := ⟨hp6, HST2.out, hl2⟩
     clear hr6 hp6 HST2 hF hl2
     go_wp2_with fail
     go_roundw
     case rel => exact ⟨j + 1, s2, hlt, by go_num, HB6.out, HF.out.1, HF.out.2.1, HF.out.2.2⟩
     case measure => simp [intOf]; omega
def NZ {α : Type} (x : Er α) : Prop := ∀ e, x = .no e → e ≠ 0
theorem NZ.ok {α : Type} (a : α) : NZ (.ok a) := fun e h => by cases h
theorem NZ.no {α : Type} {e : Int} (h : e ≠ 0) : NZ (.no e : Er α) := fun e' h' => by cases h'; exact h
theorem NZ.bind {α β : Type} {x : Er α} {f : α → Er β} (h : NZ x) (hf : ∀ a, NZ (f a)) : NZ (x.bind f) := fun e he => by
 cases x with
 | ok a => exact hf a e he
 | no z => cases he; exact h _ rfl
theorem NZ.ite {α : Type} {p : Prop} [Decidable p] {x y : Er α} (hx : NZ x) (hy : NZ y) : NZ (if p then x else y) := by split <;> assumption
theorem nz_things (d : Dat) : NZ (thingsF d) := NZ.ite (NZ.ok _) (NZ.no (by decide))
theorem nz_name (d : Dat) : NZ (nameF d) := NZ.ite (NZ.ok _) (NZ.no (by decide))
theorem nz_one (l : List Dat) : NZ (oneF l) := by
 match l with
 | [] => exact NZ.no (by decide)
 | [x] => exact NZ.ok _
 | x :: y :: r => exact NZ.no (by decide)
theorem nz_names : ∀ (l : List Dat), NZ (namesF l)
 | [] => by rw [namesF]; exact NZ.ok _
 | d :: r => by rw [namesF]; exact (nz_name d).bind fun n => (nz_names r).bind fun l => NZ.ok _
theorem nz_just (d : Dat) (n : Nat) : NZ (justF d n) := NZ.ite (nz_names _) (NZ.no (by decide))
theorem nz_called (d : Dat) : NZ (calledF d) := (nz_things d).bind fun l => (nz_names l).bind fun ns => NZ.ite (NZ.ok _) (NZ.no (by decide))
theorem nz_renames : ∀ (l : List Dat), NZ (renamesF l)
 | [] => by rw [renamesF]; exact NZ.ok _
 | d :: r => by rw [renamesF]; exact (nz_just d 2).bind fun p => (nz_renames r).bind fun q => NZ.ok _
theorem nz_set : ∀ (n : Nat) (d : Dat), NZ (setF n d)
 | 0, d => by rw [setF]; exact NZ.no (by decide)
 | n + 1, d => by
  rw [setF]
  exact (nz_things d).bind fun l => NZ.ite ((nz_called d).bind fun nm => NZ.ok _) ((nz_set n _).bind fun k => NZ.ite ((nz_names _).bind fun ns => NZ.ok _) (NZ.ite ((nz_one _).bind fun x => (nz_name x).bind fun p => NZ.ok _) (NZ.ite ((nz_renames _).bind fun q => NZ.ok _) (NZ.ok _))))
mutual
theorem nz_holdsD (E : Env) : ∀ (d : Dat), NZ (holdsD E d)
 | ⟨k, n, nm, st, lb, ks⟩ => by
  rw [holdsD]
  exact NZ.ite (NZ.ok _) (NZ.ite (nz_holdsK E ks) (NZ.no (by decide)))
theorem nz_holdsK (E : Env) : ∀ (l : List Dat), NZ (holdsK E l)
 | [] => by rw [holdsK]; exact NZ.no (by decide)
 | h :: r => by
  have h1 := nz_holdsN E r
  have h2 := nz_holdsA E r
  have h3 := nz_holdsO E r
  rw [holdsK]
  exact NZ.ite (NZ.ite ((nz_one r).bind fun x => (nz_called x).bind fun n => NZ.ok _) (NZ.ite h1 (NZ.ite h2 (NZ.ite h3 (NZ.no (by decide)))))) (NZ.no (by decide))
theorem nz_holdsN (E : Env) : ∀ (l : List Dat), NZ (holdsN E l)
 | [] => by rw [holdsN]; exact NZ.no (by decide)
 | [x] => by
  have h := nz_holdsD E x
  rw [holdsN]; exact h.bind fun b => NZ.ok _
 | x :: y :: r => by rw [holdsN]; exact NZ.no (by decide)
theorem nz_holdsA (E : Env) : ∀ (l : List Dat), NZ (holdsA E l)
 | [] => by rw [holdsA]; exact NZ.ok _
 | x :: r => by
  have h1 := nz_holdsA E r
  rw [holdsA]; exact (nz_holdsD E x).bind fun b => NZ.ite h1 (NZ.ok _)
theorem nz_holdsO (E : Env) : ∀ (l : List Dat), NZ (holdsO E l)
 | [] => by rw [holdsO]; exact NZ.ok _
 | x :: r => by
  have h1 := nz_holdsO E r
  rw [holdsO]; exact (nz_holdsD E x).bind fun b => NZ.ite (NZ.ok _) h1
end
theorem nz_clause (E : Env) (d : Dat) : NZ (clauseF E d) := NZ.ite (NZ.ok _) (nz_holdsD E d)
theorem nz_export (d : Dat) : NZ (exportF d) := NZ.ite (NZ.ok _) ((nz_just d 3).bind fun l => NZ.ite (NZ.ok _) (NZ.no (by decide)))
theorem nz_exports : ∀ (l : List Dat) (s : LibS), NZ (exportsF l s)
 | [], s => by rw [exportsF]; exact NZ.ok _
 | d :: r, s => by
  rw [exportsF]
  exact (nz_export d).bind fun e => NZ.ite (NZ.no (by decide)) (NZ.ite (nz_exports r _) (NZ.no (by decide)))
theorem nz_imports : ∀ (l : List Dat) (s : LibS), NZ (importsF l s)
 | [], s => by rw [importsF]; exact NZ.ok _
 | d :: r, s => by
  rw [importsF]
  exact NZ.ite ((nz_set 12 d).bind fun x => nz_imports r _) (NZ.no (by decide))
theorem nz_add (l : List Dat) (s : LibS) : NZ (addF l s) := NZ.ite (NZ.ok _) (NZ.no (by decide))
theorem nz_include (E : Env) : ∀ (l : List Dat) (s : LibS), NZ (includeF E l s)
 | [], s => by rw [includeF]; exact NZ.ok _
 | d :: r, s => by
  rw [includeF]
  refine (nz_name d).bind fun n => ?_
  cases fileF n E.files with
  | none => exact NZ.no (by decide)
  | some t =>
   show NZ (match readL t.data.toList with | .inl x => .no x.1 | .inr ds => (addF ds s).bind fun s' => includeF E r s')
   cases hr : readL t.data.toList with
   | inl x => exact NZ.no (read_err hr)
   | inr ds => exact (nz_add ds s).bind fun s' => nz_include E r s'
mutual
theorem nz_declD (E : Env) : ∀ (d : Dat) (s : LibS), NZ (declD E d s)
 | ⟨k, n, nm, st, lb, ks⟩, s => by
  rw [declD]; exact NZ.ite (nz_declK E ks s) (NZ.no (by decide))
theorem nz_declK (E : Env) : ∀ (l : List Dat) (s : LibS), NZ (declK E l s)
 | [], s => by rw [declK]; exact NZ.no (by decide)
 | h :: r, s => by
  have hC := nz_declC E r s
  rw [declK]
  exact NZ.ite (NZ.ite (NZ.ite (NZ.no (by decide)) (nz_exports r s)) (NZ.ite (nz_imports r s) (NZ.ite (nz_add _ s) (NZ.ite (nz_include E r s) (NZ.ite hC (NZ.no (by decide))))))) (NZ.no (by decide))
theorem nz_declL (E : Env) : ∀ (l : List Dat) (s : LibS), NZ (declL E l s)
 | [], s => by rw [declL]; exact NZ.ok _
 | d :: r, s => by rw [declL]; exact (nz_declD E d s).bind fun s' => nz_declL E r s'
theorem nz_declC (E : Env) : ∀ (l : List Dat) (s : LibS), NZ (declC E l s)
 | [], s => by rw [declC]; exact NZ.ok _
 | c :: r, s => by rw [declC]; exact nz_declB E c _ (fun s' => nz_declC E r s') s
theorem nz_declB (E : Env) : ∀ (d : Dat) (k : LibS → Er LibS) (hk : ∀ s, NZ (k s)) (s : LibS), NZ (declB E d k s)
 | ⟨k0, n, nm, st, lb, ks⟩, k, hk, s => by rw [declB]; exact NZ.ite (nz_declT E ks k hk s) (NZ.no (by decide))
theorem nz_declT (E : Env) : ∀ (l : List Dat) (k : LibS → Er LibS) (hk : ∀ s, NZ (k s)) (s : LibS), NZ (declT E l k s)
 | [], k, hk, s => by rw [declT]; exact NZ.no (by decide)
 | x :: t, k, hk, s => by
  have h1 := nz_declL E t s
  rw [declT]; exact (nz_clause E x).bind fun b => NZ.ite h1 (hk s)
end
open Go.RowKit
theorem hasB_at {l : List ByteArray} {j : Nat} {y x : ByteArray} (h : l[j]? = some y) : hasB x (l.drop j) = (decide (y = x) || hasB x (l.drop (j + 1))) := by
 obtain ⟨hi, e⟩ := List.getElem?_eq_some_iff.1 h
 rw [List.drop_eq_getElem_cons hi, e]
 rfl
theorem strIndex_any (ok : Nat → Prop) (l : List ByteArray) (x : ByteArray) (v : Value) (w : World) (hl : SV ok l v w) (hn : l.length ≤ 9223372036854775807) :
 Calls Tryz.prog 158 #[v, .string x] w fun e w' => w' = w ∧ ∃ k : Int, e = .returned (.int .i64 k) ∧ decide (0 ≤ k) = hasB x l := by
 obtain ⟨a, cap, rfl, hc, hl⟩ := hl
 have HR : Hid (∀ j y, l[j]? = some y → ∃ b o, a = some ⟨b, o, none⟩ ∧ w.cell? ⟨b, o + j, none⟩ = some (.string y)) := fun j y hj => by
  rcases hl with h0 | ⟨b, o, h1, h2, h3⟩
  ·rw [h0] at hj; simp at hj
  exact ⟨b, o, h1, h3 j y hj⟩
 have HL : Hid (∀ j, j < l.length → ∃ d, l[j]? = some d) := fun j hj => ⟨_, List.getElem?_eq_getElem hj⟩
 obtain ⟨n, hn'⟩ : ∃ n, n = l.length := ⟨_, rfl⟩
 have HN := hidd hn'
 rw [← hn'] at HL hn ⊢
 clear hl hn' hc
 go_enter Tryz.func158, Tryz.ntmps158
 go_wp2_with fail
 go_loopw [5, 8] (fun _ ix wr => ∃ (j : Nat), j ≤ n ∧ ix = .int .i64 j ∧ Hid (wr = w ∧ hasB x l = hasB x (l.drop j))) (fun _ ix _ => n - (intOf ix).toNat)
 case atStart => exact ⟨0, Nat.zero_le _, rfl, rfl, by rw [List.drop_zero]⟩
 obtain ⟨j, hj, rfl, HI⟩ := hrel
 obtain ⟨rfl, he⟩ := HI.out
 have HE0 := hidd he
 clear he HI
 by_cases hlt : j < n
 ·obtain ⟨p, hp⟩ := HL.out j hlt
  obtain ⟨g, o, rfl, c0⟩ := HR.out j p hp
  have i1 : (0 : Int) ≤ (j : Int) := by omega
  have i2 : (j : Int) < (n : Int) := by omega
  have HD := hidd (hasB_at (x := x) hp)
  clear hp
  by_cases hq : p = x
  ·have c1 : (x.toList == p.toList) = true := by rw [hq]; simp
   have HE : Hid (hasB x l = true) := by show _ = _; rw [HE0.out, HD.out, decide_eq_true hq, Bool.true_or]
   clear hq
   go_wp2_with fail
   go_ret
   exact ⟨rfl, j, rfl, by rw [HE.out]; simp⟩
  have c1 := beqS_ne (fun h => hq h.symm)
  have HE : Hid (hasB x l = hasB x (l.drop (j + 1))) := by show _ = _; rw [HE0.out, HD.out, decide_eq_false hq, Bool.false_or]
  clear hq
  go_wp2_with fail
  go_roundw
  case rel => exact ⟨j + 1, hlt, by go_num, by first | exact trivial | rfl, HE.out⟩
  case measure => simp [intOf]; omega
 obtain rfl : j = n := by omega
 have HE : Hid (hasB x l = false) := by
  show _ = _
  rw [HE0.out, List.drop_eq_nil_of_le (by rw [← HN.out]; exact Nat.le_refl _)]
  rfl
 go_wp2_with fail
 go_ret
 first | exact ⟨rfl, -1, rfl, by rw [HE.out]; rfl⟩ | exact ⟨trivial, -1, rfl, by rw [HE.out]; rfl⟩
theorem strHas_any (ok : Nat → Prop) (l : List ByteArray) (x : ByteArray) (v : Value) (w : World) (hl : SV ok l v w) (hn : l.length ≤ 9223372036854775807) :
 Calls Tryz.prog 148 #[v, .string x] w fun e w' => e = .returned (.bool (hasB x l)) ∧ w' = w := by
 have HI := hidd (strIndex_any ok l x v w hl hn)
 clear hl hn
 generalize hasB x l = r at *
 go_enter Tryz.func148, Tryz.ntmps148
 go_wp2_with fail
 refine HI.out.mono ?_
 rintro e w1 ⟨rfl, k, rfl, hk⟩
 cases r
 ·go_wp2_with fail
  go_ret
  exact ⟨rfl, rfl⟩
 go_wp2_with fail
 go_ret
 exact ⟨rfl, rfl⟩
def anyF (g : Dat → Er Bool) : List Dat → Er Bool
 | [] => .ok false
 | x :: r => (g x).bind fun b => if b then .ok true else anyF g r
theorem holdsO_any (E : Env) : ∀ (l : List Dat), holdsO E l = anyF (holdsD E) l
 | [] => by rw [holdsO]; rfl
 | x :: r => by
  rw [holdsO, holdsO_any E r]
  rfl
theorem holdsA_any (E : Env) : ∀ (l : List Dat), holdsA E l = (anyF (fun x => (holdsD E x).bind fun b => .ok (!b)) l).bind fun b => .ok (!b)
 | [] => by rw [holdsA]; rfl
 | x :: r => by
  rw [holdsA, holdsA_any E r]
  show _ = (((holdsD E x).bind fun b => .ok (!b)).bind fun b => if b then .ok true else anyF (fun x => (holdsD E x).bind fun b => .ok (!b)) r).bind fun b => .ok (!b)
  generalize anyF (fun x => (holdsD E x).bind fun b => .ok (!b)) r = z
  cases holdsD E x with
  | no e => rfl
  | ok b => cases b <;> rfl
theorem anyF_at {g : Dat → Er Bool} {l : List Dat} {j : Nat} {x : Dat} (h : l[j]? = some x) (hl : anyF g l = anyF g (l.drop j)) : anyF g l = (g x).bind fun b => if b then .ok true else anyF g (l.drop (j + 1)) := by
 obtain ⟨hi, e⟩ := List.getElem?_eq_some_iff.1 h
 rw [hl, List.drop_eq_getElem_cons hi, e]
 rfl
theorem datIndex_150 (g : Dat → Er Bool) (B f : Nat) (ds : List Dat) (a : Option Addr) (cap qb : Nat) (w : World) (hB : B ≤ w.heap.size) (hd : Dc (fun k => k < B) w f a ds) (hn : ds.length ≤ 2000)
 (HC0 : ∀ d ∈ ds, ∀ k a' cap' W, Below w.heap.size w W → f = k + 1 → d.kids.length ≤ cap' → Dc (fun k => k < B) W k a' d.kids → Calls Tryz.prog 150 #[dv d a' cap', .pointer (some ⟨qb, 0, none⟩)] W (ToldE (g d) (fun b v _ => v = .bool b) W)) :
 Calls Tryz.prog 159 #[.slice a ds.length cap, .func (.func 150) #[] #[.pointer (some ⟨qb, 0, none⟩)]] w (ToldE (anyF g ds) (fun b v _ => ∃ k : Int, v = .int .i64 k ∧ decide (0 ≤ k) = b) w) := by
 have HD : Hid (∀ W j d, Below w.heap.size w W → ds[j]? = some d → ∃ b o a' cap' k, a = some ⟨b, o, none⟩ ∧ f = k + 1 ∧ DAt (fun k => k < B) W b (o + j * 6) d a' cap' ∧ Dc (fun k => k < B) W k a' d.kids) := fun W j d hb hj => by
  obtain ⟨k, b, o, a', cap', h0, h1, h2, h3⟩ := hd.at hj
  exact ⟨b, o, a', cap', k, h1, h0, h2.below (hb.mono hB), h3.below (hb.mono hB)⟩
 have HCO := hidd HC0
 have HL : Hid (∀ j, j < ds.length → ∃ d, ds[j]? = some d) := fun j hj => ⟨_, List.getElem?_eq_getElem hj⟩
 obtain ⟨n, hn'⟩ : ∃ n, n = ds.length := ⟨_, rfl⟩
 have HN := hidd hn'
 rw [← hn'] at hn HL ⊢
 clear hd HC0 hn'
 go_enter Tryz.func159, Tryz.ntmps159
 go_wp2_with fail
 go_loopw [5, 8] (fun _ ix wr => ∃ (j : Nat), j ≤ n ∧ ix = .int .i64 j ∧ Hid (Below w.heap.size w wr ∧ anyF g ds = anyF g (ds.drop j))) (fun _ ix _ => n - (intOf ix).toNat)
 case atStart => exact ⟨0, Nat.zero_le _, rfl, Below.refl _ _, by rw [List.drop_zero]⟩
 obtain ⟨j, hj, rfl, HI⟩ := hrel
 by_cases hlt : j < n
 rotate_left
 ·obtain rfl : j = n := by omega
  have HE : Hid (anyF g ds = .ok false) := by
   show _ = _
   rw [HI.out.2, List.drop_eq_nil_of_le (by rw [← HN.out]; exact Nat.le_refl _)]
   rfl
  go_wp2_with fail
  go_ret
  refine ⟨HI.out.1, ?_⟩
  rw [HE.out]
  exact ⟨_, rfl, -1, rfl, rfl⟩
 obtain ⟨d, hdj⟩ := HL.out j hlt
 obtain ⟨b, o, a', cap', k0, rfl, hf0, hA, hK⟩ := HD.out wr j d HI.out.1 hdj
 obtain ⟨_, c0, c1, c2, c3, c4, c5, hnm, hlk⟩ := hA
 have i1 : (0 : Int) ≤ (j : Int) := by omega
 have i2 : (j : Int) < (n : Int) := by omega
 have CO0 := HCO.out d (List.mem_of_getElem? hdj) k0 a' cap' wr HI.out.1 hf0 hlk hK
 have hst := anyF_at hdj HI.out.2
 unfold dv at CO0
 clear hdj hK hf0 hlk hnm
 generalize d.kids.length = kn at *
 cases hg : g d with
 | no x =>
  rw [hg] at CO0 hst
  have CO : Hid (Calls Tryz.prog 150 #[.agg #[.int .i64 d.kind, .int .i64 d.n, .string d.name, .int .i64 d.stamp, .int .i64 d.lib, .slice a' kn cap'], .pointer (some ⟨qb, 0, none⟩)] wr fun e w' => Below wr.heap.size wr w' ∧ e = .panicked (thrownL x)) := CO0
  have HST : Hid (anyF g ds = .no x) := hst
  clear CO0 hst hg
  go_wp2_with fail
  refine CO.out.mono ?_
  rintro e w2 ⟨hb2, rfl⟩
  have HB2 : Hid (Below w.heap.size w w2) := HI.out.1.trans (hb2.mono HI.out.1.size)
  clear hb2
  go_wp2_with fail
  refine ⟨rfl, HB2.out, ?_⟩
  rw [HST.out]
 | ok t =>
  rw [hg] at CO0 hst
  have CO : Hid (Calls Tryz.prog 150 #[.agg #[.int .i64 d.kind, .int .i64 d.n, .string d.name, .int .i64 d.stamp, .int .i64 d.lib, .slice a' kn cap'], .pointer (some ⟨qb, 0, none⟩)] wr fun e w' => Below wr.heap.size wr w' ∧ ∃ v, e = .returned v ∧ v = .bool t) := CO0
  cases t with
  | true =>
   have HST : Hid (anyF g ds = .ok true) := hst
   clear CO0 hst hg
   go_wp2_with fail
   refine CO.out.mono ?_
   rintro e w2 ⟨hb2, v, rfl, rfl⟩
   have HB2 : Hid (Below w.heap.size w w2) := HI.out.1.trans (hb2.mono HI.out.1.size)
   clear hb2
   go_wp2_with fail
   go_ret
   refine ⟨HB2.out, ?_⟩
   rw [HST.out]
   exact ⟨_, rfl, j, rfl, by simp⟩
  | false =>
   have HST : Hid (anyF g ds = anyF g (ds.drop (j + 1))) := hst
   clear CO0 hst hg
   go_wp2_with fail
   refine CO.out.mono ?_
   rintro e w2 ⟨hb2, v, rfl, rfl⟩
   have HB2 : Hid (Below w.heap.size w w2) := HI.out.1.trans (hb2.mono HI.out.1.size)
   clear hb2
   go_wp2_with fail
   go_roundw
   case rel => exact ⟨j + 1, hlt, by go_num, HB2.out, HST.out⟩
   case measure => simp [intOf]; omega
theorem datHas_150 (r : Er Bool) (a : Option Addr) (n cap qb : Nat) (w : World) (HI0 : Calls Tryz.prog 159 #[.slice a n cap, .func (.func 150) #[] #[.pointer (some ⟨qb, 0, none⟩)]] w (ToldE r (fun b v _ => ∃ k : Int, v = .int .i64 k ∧ decide (0 ≤ k) = b) w)) :
 Calls Tryz.prog 149 #[.slice a n cap, .func (.func 150) #[] #[.pointer (some ⟨qb, 0, none⟩)]] w (ToldE r (fun b v _ => v = .bool b) w) := by
 cases r with
 | no x =>
  have HI : Hid (Calls Tryz.prog 159 #[.slice a n cap, .func (.func 150) #[] #[.pointer (some ⟨qb, 0, none⟩)]] w fun e w' => Below w.heap.size w w' ∧ e = .panicked (thrownL x)) := HI0
  clear HI0
  go_enter Tryz.func149, Tryz.ntmps149
  go_wp2_with fail
  refine HI.out.mono ?_
  rintro e w1 ⟨hb1, rfl⟩
  have HB1 := hidd hb1
  clear hb1
  go_wp2_with fail
  exact ⟨rfl, HB1.out, rfl⟩
 | ok b =>
  have HI : Hid (Calls Tryz.prog 159 #[.slice a n cap, .func (.func 150) #[] #[.pointer (some ⟨qb, 0, none⟩)]] w fun e w' => Below w.heap.size w w' ∧ ∃ v, e = .returned v ∧ ∃ k : Int, v = .int .i64 k ∧ decide (0 ≤ k) = b) := HI0
  clear HI0
  go_enter Tryz.func149, Tryz.ntmps149
  go_wp2_with fail
  refine HI.out.mono ?_
  rintro e w1 ⟨hb1, v, rfl, k, rfl, hk⟩
  have HB1 := hidd hb1
  clear hb1
  cases b
  ·go_wp2_with fail
   go_ret
   exact ⟨HB1.out, _, rfl, rfl⟩
  go_wp2_with fail
  go_ret
  exact ⟨HB1.out, _, rfl, rfl⟩
theorem clos_150 (r : Er Bool) (d : Dat) (a : Option Addr) (cap qb pb : Nat) (w : World) (hq : w.cell? ⟨qb, 0, none⟩ = some (.pointer (some ⟨pb, 0, none⟩))) (hql : qb < w.heap.size)
 (HH0 : ∀ W, Below w.heap.size w W → Calls Tryz.prog 133 #[.pointer (some ⟨pb, 0, none⟩), dv d a cap] W (ToldE r (fun b v _ => v = .bool b) W)) :
 Calls Tryz.prog 150 #[dv d a cap, .pointer (some ⟨qb, 0, none⟩)] w (ToldE (r.bind fun b => .ok (!b)) (fun b v _ => v = .bool b) w) := by
 have hb : Below w.heap.size w (w.alloc (.cells #[.int .i64 d.kind, .int .i64 d.n, .string d.name, .int .i64 d.stamp, .int .i64 d.lib, .slice a d.kids.length cap] 26)) := (Below.refl _ _).alloc (Nat.le_refl _) _
 have q0 : (w.alloc (.cells #[.int .i64 d.kind, .int .i64 d.n, .string d.name, .int .i64 d.stamp, .int .i64 d.lib, .slice a d.kids.length cap] 26)).cell? ⟨qb, 0, none⟩ = some (.pointer (some ⟨pb, 0, none⟩)) := (hb.cell (p := ⟨qb, 0, none⟩) hql).trans hq
 have HB := hidd hb
 unfold dv at *
 clear hb hq hql
 generalize d.kids.length = kn at *
 cases r with
 | no x =>
  have HH : Hid (∀ W, Below w.heap.size w W → Calls Tryz.prog 133 #[.pointer (some ⟨pb, 0, none⟩), .agg #[.int .i64 d.kind, .int .i64 d.n, .string d.name, .int .i64 d.stamp, .int .i64 d.lib, .slice a kn cap]] W fun e w' => Below W.heap.size W w' ∧ e = .panicked (thrownL x)) := HH0
  clear HH0
  go_enter Tryz.func150, Tryz.ntmps150
  go_wp2_with fail
  refine (HH.out _ HB.out).mono ?_
  rintro e w1 ⟨hb1, rfl⟩
  have HB1 : Hid (Below w.heap.size w w1) := HB.out.trans (hb1.mono HB.out.size)
  clear hb1
  go_wp2_with fail
  exact ⟨rfl, HB1.out, rfl⟩
 | ok b =>
  have HH : Hid (∀ W, Below w.heap.size w W → Calls Tryz.prog 133 #[.pointer (some ⟨pb, 0, none⟩), .agg #[.int .i64 d.kind, .int .i64 d.n, .string d.name, .int .i64 d.stamp, .int .i64 d.lib, .slice a kn cap]] W fun e w' => Below W.heap.size W w' ∧ ∃ v, e = .returned v ∧ v = .bool b) := HH0
  clear HH0
  go_enter Tryz.func150, Tryz.ntmps150
  go_wp2_with fail
  refine (HH.out _ HB.out).mono ?_
  rintro e w1 ⟨hb1, v, rfl, rfl⟩
  have HB1 : Hid (Below w.heap.size w w1) := HB.out.trans (hb1.mono HB.out.size)
  clear hb1
  go_wp2_with fail
  go_ret
  exact ⟨HB1.out, _, rfl, rfl⟩
theorem datIndex_151 (g : Dat → Er Bool) (B f : Nat) (ds : List Dat) (a : Option Addr) (cap qb : Nat) (w : World) (hB : B ≤ w.heap.size) (hd : Dc (fun k => k < B) w f a ds) (hn : ds.length ≤ 2000)
 (HC0 : ∀ d ∈ ds, ∀ k a' cap' W, Below w.heap.size w W → f = k + 1 → d.kids.length ≤ cap' → Dc (fun k => k < B) W k a' d.kids → Calls Tryz.prog 151 #[dv d a' cap', .pointer (some ⟨qb, 0, none⟩)] W (ToldE (g d) (fun b v _ => v = .bool b) W)) :
 Calls Tryz.prog 159 #[.slice a ds.length cap, .func (.func 151) #[] #[.pointer (some ⟨qb, 0, none⟩)]] w (ToldE (anyF g ds) (fun b v _ => ∃ k : Int, v = .int .i64 k ∧ decide (0 ≤ k) = b) w) := by
 have HD : Hid (∀ W j d, Below w.heap.size w W → ds[j]? = some d → ∃ b o a' cap' k, a = some ⟨b, o, none⟩ ∧ f = k + 1 ∧ DAt (fun k => k < B) W b (o + j * 6) d a' cap' ∧ Dc (fun k => k < B) W k a' d.kids) := fun W j d hb hj => by
  obtain ⟨k, b, o, a', cap', h0, h1, h2, h3⟩ := hd.at hj
  exact ⟨b, o, a', cap', k, h1, h0, h2.below (hb.mono hB), h3.below (hb.mono hB)⟩
 have HCO := hidd HC0
 have HL : Hid (∀ j, j < ds.length → ∃ d, ds[j]? = some d) := fun j hj => ⟨_, List.getElem?_eq_getElem hj⟩
 obtain ⟨n, hn'⟩ : ∃ n, n = ds.length := ⟨_, rfl⟩
 have HN := hidd hn'
 rw [← hn'] at hn HL ⊢
 clear hd HC0 hn'
 go_enter Tryz.func159, Tryz.ntmps159
 go_wp2_with fail
 go_loopw [5, 8] (fun _ ix wr => ∃ (j : Nat), j ≤ n ∧ ix = .int .i64 j ∧ Hid (Below w.heap.size w wr ∧ anyF g ds = anyF g (ds.drop j))) (fun _ ix _ => n - (intOf ix).toNat)
 case atStart => exact ⟨0, Nat.zero_le _, rfl, Below.refl _ _, by rw [List.drop_zero]⟩
 obtain ⟨j, hj, rfl, HI⟩ := hrel
 by_cases hlt : j < n
 rotate_left
 ·obtain rfl : j = n := by omega
  have HE : Hid (anyF g ds = .ok false) := by
   show _ = _
   rw [HI.out.2, List.drop_eq_nil_of_le (by rw [← HN.out]; exact Nat.le_refl _)]
   rfl
  go_wp2_with fail
  go_ret
  refine ⟨HI.out.1, ?_⟩
  rw [HE.out]
  exact ⟨_, rfl, -1, rfl, rfl⟩
 obtain ⟨d, hdj⟩ := HL.out j hlt
 obtain ⟨b, o, a', cap', k0, rfl, hf0, hA, hK⟩ := HD.out wr j d HI.out.1 hdj
 obtain ⟨_, c0, c1, c2, c3, c4, c5, hnm, hlk⟩ := hA
 have i1 : (0 : Int) ≤ (j : Int) := by omega
 have i2 : (j : Int) < (n : Int) := by omega
 have CO0 := HCO.out d (List.mem_of_getElem? hdj) k0 a' cap' wr HI.out.1 hf0 hlk hK
 have hst := anyF_at hdj HI.out.2
 unfold dv at CO0
 clear hdj hK hf0 hlk hnm
 generalize d.kids.length = kn at *
 cases hg : g d with
 | no x =>
  rw [hg] at CO0 hst
  have CO : Hid (Calls Tryz.prog 151 #[.agg #[.int .i64 d.kind, .int .i64 d.n, .string d.name, .int .i64 d.stamp, .int .i64 d.lib, .slice a' kn cap'], .pointer (some ⟨qb, 0, none⟩)] wr fun e w' => Below wr.heap.size wr w' ∧ e = .panicked (thrownL x)) := CO0
  have HST : Hid (anyF g ds = .no x) := hst
  clear CO0 hst hg
  go_wp2_with fail
  refine CO.out.mono ?_
  rintro e w2 ⟨hb2, rfl⟩
  have HB2 : Hid (Below w.heap.size w w2) := HI.out.1.trans (hb2.mono HI.out.1.size)
  clear hb2
  go_wp2_with fail
  refine ⟨rfl, HB2.out, ?_⟩
  rw [HST.out]
 | ok t =>
  rw [hg] at CO0 hst
  have CO : Hid (Calls Tryz.prog 151 #[.agg #[.int .i64 d.kind, .int .i64 d.n, .string d.name, .int .i64 d.stamp, .int .i64 d.lib, .slice a' kn cap'], .pointer (some ⟨qb, 0, none⟩)] wr fun e w' => Below wr.heap.size wr w' ∧ ∃ v, e = .returned v ∧ v = .bool t) := CO0
  cases t with
  | true =>
   have HST : Hid (anyF g ds = .ok true) := hst
   clear CO0 hst hg
   go_wp2_with fail
   refine CO.out.mono ?_
   rintro e w2 ⟨hb2, v, rfl, rfl⟩
   have HB2 : Hid (Below w.heap.size w w2) := HI.out.1.trans (hb2.mono HI.out.1.size)
   clear hb2
   go_wp2_with fail
   go_ret
   refine ⟨HB2.out, ?_⟩
   rw [HST.out]
   exact ⟨_, rfl, j, rfl, by simp⟩
  | false =>
   have HST : Hid (anyF g ds = anyF g (ds.drop (j + 1))) := hst
   clear CO0 hst hg
   go_wp2_with fail
   refine CO.out.mono ?_
   rintro e w2 ⟨hb2, v, rfl, rfl⟩
   have HB2 : Hid (Below w.heap.size w w2) := HI.out.1.trans (hb2.mono HI.out.1.size)
   clear hb2
   go_wp2_with fail
   go_roundw
   case rel => exact ⟨j + 1, hlt, by go_num, HB2.out, HST.out⟩
   case measure => simp [intOf]; omega
theorem datHas_151 (r : Er Bool) (a : Option Addr) (n cap qb : Nat) (w : World) (HI0 : Calls Tryz.prog 159 #[.slice a n cap, .func (.func 151) #[] #[.pointer (some ⟨qb, 0, none⟩)]] w (ToldE r (fun b v _ => ∃ k : Int, v = .int .i64 k ∧ decide (0 ≤ k) = b) w)) :
 Calls Tryz.prog 149 #[.slice a n cap, .func (.func 151) #[] #[.pointer (some ⟨qb, 0, none⟩)]] w (ToldE r (fun b v _ => v = .bool b) w) := by
 cases r with
 | no x =>
  have HI : Hid (Calls Tryz.prog 159 #[.slice a n cap, .func (.func 151) #[] #[.pointer (some ⟨qb, 0, none⟩)]] w fun e w' => Below w.heap.size w w' ∧ e = .panicked (thrownL x)) := HI0
  clear HI0
  go_enter Tryz.func149, Tryz.ntmps149
  go_wp2_with fail
  refine HI.out.mono ?_
  rintro e w1 ⟨hb1, rfl⟩
  have HB1 := hidd hb1
  clear hb1
  go_wp2_with fail
  exact ⟨rfl, HB1.out, rfl⟩
 | ok b =>
  have HI : Hid (Calls Tryz.prog 159 #[.slice a n cap, .func (.func 151) #[] #[.pointer (some ⟨qb, 0, none⟩)]] w fun e w' => Below w.heap.size w w' ∧ ∃ v, e = .returned v ∧ ∃ k : Int, v = .int .i64 k ∧ decide (0 ≤ k) = b) := HI0
  clear HI0
  go_enter Tryz.func149, Tryz.ntmps149
  go_wp2_with fail
  refine HI.out.mono ?_
  rintro e w1 ⟨hb1, v, rfl, k, rfl, hk⟩
  have HB1 := hidd hb1
  clear hb1
  cases b
  ·go_wp2_with fail
   go_ret
   exact ⟨HB1.out, _, rfl, rfl⟩
  go_wp2_with fail
  go_ret
  exact ⟨HB1.out, _, rfl, rfl⟩
theorem clos_151 (r : Er Bool) (d : Dat) (a : Option Addr) (cap qb pb : Nat) (w : World) (hq : w.cell? ⟨qb, 0, none⟩ = some (.pointer (some ⟨pb, 0, none⟩))) (hql : qb < w.heap.size)
 (HH0 : ∀ W, Below w.heap.size w W → Calls Tryz.prog 133 #[.pointer (some ⟨pb, 0, none⟩), dv d a cap] W (ToldE r (fun b v _ => v = .bool b) W)) :
 Calls Tryz.prog 151 #[dv d a cap, .pointer (some ⟨qb, 0, none⟩)] w (ToldE (r.bind fun b => .ok b) (fun b v _ => v = .bool b) w) := by
 have hb : Below w.heap.size w (w.alloc (.cells #[.int .i64 d.kind, .int .i64 d.n, .string d.name, .int .i64 d.stamp, .int .i64 d.lib, .slice a d.kids.length cap] 26)) := (Below.refl _ _).alloc (Nat.le_refl _) _
 have q0 : (w.alloc (.cells #[.int .i64 d.kind, .int .i64 d.n, .string d.name, .int .i64 d.stamp, .int .i64 d.lib, .slice a d.kids.length cap] 26)).cell? ⟨qb, 0, none⟩ = some (.pointer (some ⟨pb, 0, none⟩)) := (hb.cell (p := ⟨qb, 0, none⟩) hql).trans hq
 have HB := hidd hb
 unfold dv at *
 clear hb hq hql
 generalize d.kids.length = kn at *
 cases r with
 | no x =>
  have HH : Hid (∀ W, Below w.heap.size w W → Calls Tryz.prog 133 #[.pointer (some ⟨pb, 0, none⟩), .agg #[.int .i64 d.kind, .int .i64 d.n, .string d.name, .int .i64 d.stamp, .int .i64 d.lib, .slice a kn cap]] W fun e w' => Below W.heap.size W w' ∧ e = .panicked (thrownL x)) := HH0
  clear HH0
  go_enter Tryz.func151, Tryz.ntmps151
  go_wp2_with fail
  refine (HH.out _ HB.out).mono ?_
  rintro e w1 ⟨hb1, rfl⟩
  have HB1 : Hid (Below w.heap.size w w1) := HB.out.trans (hb1.mono HB.out.size)
  clear hb1
  go_wp2_with fail
  exact ⟨rfl, HB1.out, rfl⟩
 | ok b =>
  have HH : Hid (∀ W, Below w.heap.size w W → Calls Tryz.prog 133 #[.pointer (some ⟨pb, 0, none⟩), .agg #[.int .i64 d.kind, .int .i64 d.n, .string d.name, .int .i64 d.stamp, .int .i64 d.lib, .slice a kn cap]] W fun e w' => Below W.heap.size W w' ∧ ∃ v, e = .returned v ∧ v = .bool b) := HH0
  clear HH0
  go_enter Tryz.func151, Tryz.ntmps151
  go_wp2_with fail
  refine (HH.out _ HB.out).mono ?_
  rintro e w1 ⟨hb1, v, rfl, rfl⟩
  have HB1 : Hid (Below w.heap.size w w1) := HB.out.trans (hb1.mono HB.out.size)
  clear hb1
  go_wp2_with fail
  go_ret
  exact ⟨HB1.out, _, rfl, rfl⟩
end Go.Proofs.YtonafbennobgdaaGreatDoor
