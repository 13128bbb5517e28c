/- Chapter 9, plainly: numbers and texts, written and read. Chapter 9, plainly: what is written is read, in one way alone. -/
import Derived.Test.YtdnbingddbakaaaGreatDoorK32
import Derived.Test.YtdnbingddbakaaaGreatDoorK35
namespace Go.Proofs.YtdnbingddbakaaaGreatDoor
section
set_option linter.unusedVariables false
set_option linter.unusedSimpArgs false
open Go.RowKit

theorem pow_step (i : Nat) : 128 ^ (i + 1) = 128 * 128 ^ i := by rw [Nat.pow_succ, Nat.mul_comm]
theorem takeN_vb : ∀ (k u i acc : Nat) (r : List UInt8), u ≤ k → (i = 0 ∨ 0 < u) → u * 128 ^ i < 18446744073709551616 → i ≤ 9 → takeN (vb u ++ r) i acc = some (acc + u * 128 ^ i, r, false)
  | 0, u, i, acc, r, hk, h0, hb, hi => by
    obtain rfl : u = 0 := by omega
    have hi0 : i = 0 := by omega
    subst hi0
    rw [vb_small (by omega)]
    simp [takeN]
  | k + 1, u, i, acc, r, hk, h0, hb, hi => by
    have hp : 0 < 128 ^ i := Nat.pow_pos (by omega)
    by_cases hu : u < 128
    · rw [vb_small hu]
      have e : (UInt8.ofNat u).toNat = u := by simp; omega
      simp only [List.cons_append, List.nil_append, takeN, e]
      rw [if_neg, if_pos hu]
      · have : (u == 0 && decide (0 < i)) = false := by
          by_cases hz : u = 0
          · have : i = 0 := by omega
            subst this; simp
          · simp [hz]
        rw [this]
      · rintro ⟨rfl, h1⟩
        have e9 : 128 ^ 9 = 9223372036854775808 := by decide
        rw [e9] at hb
        omega
    · rw [vb_big hu]
      have e : (UInt8.ofNat (u % 128 + 128)).toNat = u % 128 + 128 := by simp; omega
      simp only [List.cons_append, takeN, e]
      have hge : 128 * 128 ^ i ≤ u * 128 ^ i := Nat.mul_le_mul_right _ (by omega)
      have hi9 : i ≠ 9 := by
        rintro rfl
        have e9 : 128 ^ 9 = 9223372036854775808 := by decide
        rw [e9] at hge hb
        omega
      rw [if_neg (by omega), if_neg (by omega)]
      have hd : u = 128 * (u / 128) + u % 128 := (Nat.div_add_mod u 128).symm
      have e2 : u * 128 ^ i = (u / 128) * 128 ^ (i + 1) + (u % 128) * 128 ^ i := by
        rw [pow_step]
        conv => lhs; rw [hd]
        rw [Nat.add_mul, Nat.mul_comm 128 (u / 128), Nat.mul_assoc]
      have hm : (u % 128 + 128) % 128 = u % 128 := by omega
      rw [takeN_vb k (u / 128) (i + 1) _ r (by omega) (Or.inr (by omega)) (by omega) (by omega), hm, e2]
      simp only [Option.some.injEq, Prod.mk.injEq, and_true]
      omega
theorem takeN_of : ∀ (l : List UInt8) (i acc v : Nat) (r : List UInt8), i ≤ 9 → takeN l i acc = some (v, r, false) → ∃ u, l = vb u ++ r ∧ v = acc + u * 128 ^ i ∧ (i = 0 ∨ 0 < u) ∧ u * 128 ^ i < 18446744073709551616
  | [], i, acc, v, r, hi, h => by simp [takeN] at h
  | c :: l, i, acc, v, r, hi, h => by
    have hc : c.toNat < 256 := c.toNat_lt
    have hp : 128 ^ i ≤ 128 ^ 9 := Nat.pow_le_pow_right (by omega) hi
    have e9 : 128 ^ 9 = 9223372036854775808 := by decide
    rw [takeN] at h
    by_cases h9 : i = 9 ∧ 1 < c.toNat
    · rw [if_pos h9] at h; simp at h
    rw [if_neg h9] at h
    by_cases h8 : c.toNat < 128
    · rw [if_pos h8] at h
      simp only [Option.some.injEq, Prod.mk.injEq] at h
      obtain ⟨h1, h2, h3⟩ := h
      refine ⟨c.toNat, ?_, h1.symm, ?_, ?_⟩
      · rw [vb_small h8, ← h2]
        simp
      · by_cases hz : c.toNat = 0
        · left
          simp [hz] at h3
          omega
        · omega
      · by_cases hi9 : i = 9
        · subst hi9
          rw [e9]
          omega
        · have h7 : 128 ^ (i + 1) ≤ 128 ^ 9 := Nat.pow_le_pow_right (by omega) (by omega)
          rw [pow_step] at h7
          have : c.toNat * 128 ^ i ≤ 128 * 128 ^ i := Nat.mul_le_mul_right _ (by omega)
          omega
    · rw [if_neg h8] at h
      obtain ⟨u, hl, hv, h0, hb⟩ := takeN_of l (i + 1) _ v r (by omega) h
      have hu : 0 < u := by omega
      refine ⟨c.toNat % 128 + 128 * u, ?_, ?_, ?_, ?_⟩
      · rw [vb_big (by omega), hl]
        have e1 : (c.toNat % 128 + 128 * u) % 128 = c.toNat % 128 := by omega
        have e2 : (c.toNat % 128 + 128 * u) / 128 = u := by omega
        rw [e1, e2, show c.toNat % 128 + 128 = c.toNat by omega]
        simp
      · rw [hv, pow_step, Nat.add_mul, Nat.mul_comm 128 u, Nat.mul_assoc]
        omega
      · omega
      · have e3 : (c.toNat % 128 + 128 * u) * 128 ^ i = c.toNat % 128 * 128 ^ i + u * 128 ^ (i + 1) := by
          rw [pow_step, Nat.add_mul, Nat.mul_comm 128 u, Nat.mul_assoc]
        have hu10 : i + 1 ≤ 9 := by omega
        have h4 : (c.toNat % 128) * 128 ^ i + 128 ^ i ≤ 128 ^ (i + 1) := by
          have : (c.toNat % 128) * 128 ^ i ≤ 127 * 128 ^ i := Nat.mul_le_mul_right _ (by omega)
          rw [pow_step]
          omega
        have hp0 : 0 < 128 ^ i := Nat.pow_pos (by omega)
        -- u * 128^(i+1) is a multiple of 128^(i+1), below 2^64, which is one, too, or twice 128^9
        rw [e3]
        have h6 : 128 ^ (i + 1) * 128 ^ (9 - (i + 1)) = 128 ^ 9 := by rw [← Nat.pow_add]; congr 1; omega
        have h7 : u < 2 * 128 ^ (9 - (i + 1)) := by
          have : 128 ^ (i + 1) * u < 128 ^ (i + 1) * (2 * 128 ^ (9 - (i + 1))) := by
            rw [Nat.mul_comm (128 ^ (i + 1)) (2 * _), Nat.mul_assoc, Nat.mul_comm (128 ^ (9 - (i + 1))), h6, Nat.mul_comm, e9]
            omega
          exact Nat.lt_of_mul_lt_mul_left this
        have h8' : (u + 1) * 128 ^ (i + 1) ≤ (2 * 128 ^ (9 - (i + 1))) * 128 ^ (i + 1) := Nat.mul_le_mul_right _ h7
        rw [Nat.mul_assoc, Nat.mul_comm (128 ^ (9 - (i + 1))), h6, e9, Nat.add_mul, Nat.one_mul] at h8'
        omega
theorem unz_zz (n : Int) : unz (zz n) = n := by
  unfold zz unz
  by_cases h : 0 ≤ n
  · rw [if_pos h]
    rw [if_pos (by omega)]
    omega
  · rw [if_neg h]
    rw [if_neg (by omega)]
    omega
theorem zz_unz (u : Nat) : zz (unz u) = u := by
  unfold zz unz
  by_cases h : u % 2 = 0
  · rw [if_pos h, if_pos (by omega)]; omega
  · rw [if_neg h, if_neg (by omega)]; omega
theorem numR_numB {n : Int} (h1 : -9223372036854775808 ≤ n) (h2 : n < 9223372036854775808) (r : List UInt8) (bad : Bool) : numR (numB n ++ r) bad = (n, r, bad) := by
  have hz : zz n < 18446744073709551616 := by unfold zz; split <;> omega
  unfold numR numB
  rw [takeN_vb _ _ 0 0 r (Nat.le_refl _) (Or.inl rfl) (by simpa using hz) (by omega)]
  simp [unz_zz]
theorem numR_of {l r : List UInt8} {bad : Bool} {n : Int} (h : numR l bad = (n, r, false)) : bad = false ∧ l = numB n ++ r ∧ -9223372036854775808 ≤ n ∧ n < 9223372036854775808 := by
  unfold numR at h
  cases e : takeN l 0 0 with
  | none => rw [e] at h; simp at h
  | some p =>
    obtain ⟨v, r', z⟩ := p
    rw [e] at h
    simp only [Prod.mk.injEq, Bool.or_eq_false_iff] at h
    obtain ⟨h1, h2, h3, h4⟩ := h
    subst h2 h4
    obtain ⟨u, hl, hv, _, hb⟩ := takeN_of l 0 0 v r' (by omega) e
    simp at hv hb
    subst hv
    refine ⟨h3, ?_, ?_, ?_⟩
    · unfold numB
      rw [← h1, zz_unz]
      exact hl
    · rw [← h1]; unfold unz; split <;> omega
    · rw [← h1]; unfold unz; split <;> omega
theorem countR_numB {n : Nat} {r : List UInt8} (h : n ≤ r.length) (h2 : n < 9223372036854775808) : countR (numB n ++ r) false = ((n : Int), r, false) := by
  unfold countR
  rw [numR_numB (by omega) (by omega)]
  simp only
  rw [if_neg (by simp; omega)]
theorem countR_of {l r : List UInt8} {bad : Bool} {n : Int} (h : countR l bad = (n, r, false)) : bad = false ∧ l = numB n ++ r ∧ 0 ≤ n ∧ n ≤ r.length := by
  unfold countR at h
  by_cases c : (numR l bad).2.2 = true ∨ (numR l bad).1 < 0 ∨ ((numR l bad).2.1.length : Int) < (numR l bad).1
  · rw [if_pos c] at h; simp at h
  · rw [if_neg c] at h
    simp only [Prod.mk.injEq, and_true] at h
    obtain ⟨h1, h2⟩ := h
    have h3 : numR l bad = (n, r, false) := by
      rw [← h1, ← h2]
      have : (numR l bad).2.2 = false := by simpa using fun e => c (Or.inl e)
      rw [← this]
    obtain ⟨e1, e2, _⟩ := numR_of h3
    refine ⟨e1, e2, ?_, ?_⟩ <;> (rw [h3] at c; simp at c; omega)
theorem textR_textB {s : ByteArray} (r : List UInt8) (h : s.size < 9223372036854775808) : textR (textB s ++ r) false = (s.data.toList, r, false) := by
  have hl : s.data.toList.length = s.size := by simp
  unfold textR textB
  rw [List.append_assoc, countR_numB (by rw [List.length_append, hl]; omega) h]
  simp only [Int.toNat_natCast, Prod.mk.injEq, and_true]
  rw [← hl]
  exact ⟨List.take_left, List.drop_left⟩
theorem textR_of {l s r : List UInt8} {bad : Bool} (h : textR l bad = (s, r, false)) : bad = false ∧ l = textB ⟨s.toArray⟩ ++ r := by
  unfold textR at h
  simp only [Prod.mk.injEq] at h
  obtain ⟨h1, h2, h3⟩ := h
  obtain ⟨e1, e2, e3, e4⟩ := countR_of (l := l) (bad := bad) (n := (countR l bad).1) (r := (countR l bad).2.1) (by rw [← h3])
  refine ⟨e1, ?_⟩
  have hn : s.length = (countR l bad).1.toNat := by rw [← h1, List.length_take]; omega
  have hs : ((s.length : Nat) : Int) = (countR l bad).1 := by rw [hn]; omega
  have hsz : (⟨s.toArray⟩ : ByteArray).size = s.length := by simp [ByteArray.size]
  unfold textB
  rw [hsz, hs, List.append_assoc]
  show l = numB (countR l bad).1 ++ (s ++ r)
  rw [← h1, ← h2, List.take_append_drop]
  exact e2
end
section
set_option linter.unusedVariables false
set_option linter.unusedSimpArgs false
open Go.RowKit

theorem str_back (s : ByteArray) : (⟨s.data.toList.toArray⟩ : ByteArray) = s := by cases s; rfl
theorem chkL_each {g : Dat → Nat → Int × Nat} : ∀ (l : List Dat) (n : Nat), (chkL g l n).1 = 0 → ∀ d ∈ l, ∃ m, (g d m).1 = 0
  | [], _, _, d, hd => by cases hd
  | x :: r, n, h, d, hd => by
    unfold chkL at h
    by_cases e : (g x n).1 = 0
    · rw [if_pos e] at h
      rcases List.mem_cons.1 hd with rfl | hd
      · exact ⟨n, e⟩
      · exact chkL_each r _ h d hd
    · rw [if_neg e] at h; exact absurd h e
theorem chk_kind {f : Nat} {d : Dat} {n : Nat} (h : (chk (f + 1) d n).1 = 0) : (d.kind = 1 ∨ d.kind = 2 ∨ d.kind = 3 ∨ d.kind = 4) ∧ (d.kind = 4 → ∀ k ∈ d.kids, ∃ m, (chk f k m).1 = 0) := by
  obtain ⟨_, ha, hk, _⟩ := chk_parts h
  exact ⟨alone_kind ha, fun h4 => chkL_each _ _ (hk h4)⟩
theorem bare_bareQ : ∀ (f : Nat) (d : Dat) (n : Nat), (chk f d n).1 = 0 → bare f d = bareQ d
  | 0, d, n, h => by simp [chk] at h
  | f + 1, ⟨k, nn, nm, st, lb, ks⟩, n, h => by
    obtain ⟨hk, hks⟩ := chk_kind h
    simp only at hk hks
    have hm : k = 4 → ks.map (bare f) = ks.map bareQ := fun h4 => List.map_congr_left (fun d hd => by
      obtain ⟨m, e⟩ := hks h4 d hd
      exact bare_bareQ f d m e)
    rw [bare, bareQ, bareQL_map]
    rcases hk with rfl | rfl | rfl | rfl
    · simp [datNum]
    · simp [datBool]
    · simp [datSym, str_back]
    · rw [hm rfl]; simp [datList]
theorem txt_bare : ∀ (f : Nat) (d : Dat) (n : Nat), (chk f d n).1 = 0 → txt f (bareQ d) = txt f d
  | 0, d, n, h => by simp [chk] at h
  | f + 1, ⟨k, nn, nm, st, lb, ks⟩, n, h => by
    obtain ⟨hk, hks⟩ := chk_kind h
    simp only at hk hks
    rw [bareQ, bareQL_map]
    rcases hk with rfl | rfl | rfl | rfl
    · rw [txt_num rfl, txt_num rfl]; simp
    · rw [txt_bool rfl, txt_bool rfl]; simp
    · rw [txt_sym rfl, txt_sym rfl]; simp
    · rw [txt_list rfl, txt_list rfl]
      have : spaced f (ks.map bareQ) = spaced f ks := by
        unfold spaced
        rw [List.flatMap_map]
        have e : ∀ (l : List Dat), (∀ d ∈ l, ∃ m, (chk f d m).1 = 0) → (l.flatMap fun k => 32 :: txt f (bareQ k)) = l.flatMap fun k => 32 :: txt f k := by
          intro l
          induction l with
          | nil => intro _; rfl
          | cons d r ih =>
            intro hl
            obtain ⟨m, e⟩ := hl d List.mem_cons_self
            rw [List.flatMap_cons, List.flatMap_cons, ih (fun d hd => hl d (List.mem_cons_of_mem _ hd)), txt_bare f d m e]
        exact e ks (hks rfl)
      simp only [if_true]
      rw [this]
theorem wrong_chk {d : Dat} (h : (wrong [d]).1 = 0) : (chk 40 d 0).1 = 0 := by
  unfold wrong wrongFrom at h
  by_cases e : (chk 40 d 0).1 = 0
  · exact e
  · rw [if_neg e] at h; exact absurd h e
theorem printed_one (d : Dat) : printed [d] = txt 40 d ++ [10] := by simp [printed]
theorem printed_bare {d : Dat} (h : (wrong [d]).1 = 0) : printed [bareQ d] = printed [d] := by
  rw [printed_one, printed_one, txt_bare 40 d 0 (wrong_chk h)]
/-- How what is quoted is written: what is too long for a text is too long for a unit. -/
def qtP (d : Dat) : ByteArray := if 6000 < (printed [d]).length then ⟨(List.replicate 60001 0).toArray⟩ else ⟨(printed [d]).toArray⟩
/-- How what is quoted is read. -/
def qrP : QR := fun l bad => match readL (textR l bad).1 with
  | .inr [d] => if printed [d] = (textR l bad).1 then some (d, (textR l bad).2.1, (textR l bad).2.2) else some (emD, (textR l bad).2.1, true)
  | _ => some (emD, (textR l bad).2.1, true)
theorem qrP_len : ∀ l bad d l' bad', qrP l bad = some (d, l', bad') → l'.length ≤ l.length := by
  intro l bad d l' bad' h
  have := textR_left l bad
  unfold qrP at h
  repeat' split at h
  all_goals
    simp only [Option.some.injEq, Prod.mk.injEq] at h
    rw [← h.2.1]
    exact this
theorem qrP_some (l : List UInt8) (bad : Bool) : ∃ y, qrP l bad = some y := by
  unfold qrP
  repeat' split
  all_goals exact ⟨_, rfl⟩
theorem qt_back {d : Dat} (h : (wrong [d]).1 = 0) (hl : (printed [d]).length ≤ 6000) (r : List UInt8) : qrP (textB (qtP d) ++ r) false = some (bareQ d, r, false) := by
  have e1 : qtP d = ⟨(printed [d]).toArray⟩ := by unfold qtP; rw [if_neg (by omega)]
  have hs : (⟨(printed [d]).toArray⟩ : ByteArray).size = (printed [d]).length := by simp [ByteArray.size]
  have e2 := textR_textB (s := ⟨(printed [d]).toArray⟩) r (by rw [hs]; omega)
  have e3 := read_printed [d] h hl
  rw [List.map_cons, List.map_nil, bare_bareQ 40 d 0 (wrong_chk h)] at e3
  unfold qrP
  rw [e1, e2]
  simp only [List.toList_toArray]
  rw [e3]
  simp only
  rw [if_pos (printed_bare h)]
theorem qr_of {l r : List UInt8} {bad : Bool} {d : Dat} (h : qrP l bad = some (d, r, false)) : bad = false ∧ l = textB (qtP d) ++ r := by
  unfold qrP at h
  split at h
  · rename_i x hx
    split at h
    · rename_i hp
      simp only [Option.some.injEq, Prod.mk.injEq] at h
      obtain ⟨rfl, h2, h3⟩ := h
      have hr := (readL_ok hx).1
      obtain ⟨e1, e2⟩ := textR_of (l := l) (bad := bad) (s := (textR l bad).1) (r := r) (by rw [← h2, ← h3])
      refine ⟨e1, ?_⟩
      unfold qtP
      rw [hp, if_neg (by omega)]
      exact e2
    · simp at h
  · simp at h
theorem numB_ne (n : Int) : 1 ≤ (numB n).length := by
  unfold numB
  rw [vb]
  split <;> simp
/-- An instruction without what its kind has not. -/
def bareI (x : In) : In :=
  if layW x.op = 2 then insN x.op x.n else if layW x.op = 3 then ⟨x.op, 0, 0, ⟨#[]⟩, ⟨#[]⟩, bareQ x.quote⟩ else if layW x.op = 4 then insG x.op x.lib x.own else if layW x.op = 5 then insG x.op ⟨#[]⟩ x.own else if layW x.op = 6 then insA x.op x.a else insO x.op
def Fit (x : In) : Prop := IsOk x ∧ (layW x.op = 3 → (wrong [x.quote]).1 = 0 ∧ (printed [x.quote]).length ≤ 6000)
theorem layW_ok {op : Int} (h : 1 ≤ op ∧ op ≤ 15) : layW op = 1 ∨ layW op = 2 ∨ layW op = 3 ∨ layW op = 4 ∨ layW op = 5 ∨ layW op = 6 := by
  have : op = 1 ∨ op = 2 ∨ op = 3 ∨ op = 4 ∨ op = 5 ∨ op = 6 ∨ op = 7 ∨ op = 8 ∨ op = 9 ∨ op = 10 ∨ op = 11 ∨ op = 12 ∨ op = 13 ∨ op = 14 ∨ op = 15 := by omega
  rcases this with rfl | rfl | rfl | rfl | rfl | rfl | rfl | rfl | rfl | rfl | rfl | rfl | rfl | rfl | rfl <;> decide
theorem ins_back {x : In} (h : Fit x) (r : List UInt8) : insR qrP (insB qtP x ++ r) false = some (bareI x, r, false) := by
  obtain ⟨⟨ho, h2, h6, h4, h5⟩, h3⟩ := h
  have e0 : ∀ q, numR (numB x.op ++ q) false = (x.op, q, false) := fun q => numR_numB (by omega) (by omega) q false
  rcases layW_ok ho with c | c | c | c | c | c
  · have eb : insB qtP x = numB x.op ++ [] := by unfold insB; simp [c]
    have ei : bareI x = insO x.op := by unfold bareI; simp [c]
    rw [eb, ei, List.append_assoc]
    unfold insR
    rw [e0]
    simp [c]
  · have eb : insB qtP x = numB x.op ++ numB x.n := by unfold insB; simp [c]
    have ei : bareI x = insN x.op x.n := by unfold bareI; simp [c]
    have := h2 c
    rw [eb, ei, List.append_assoc]
    unfold insR
    rw [e0]
    simp only
    rw [numR_numB (by omega) (by omega) r false]
    simp [c]
  · have eb : insB qtP x = numB x.op ++ textB (qtP x.quote) := by unfold insB; simp [c]
    have ei : bareI x = ⟨x.op, 0, 0, ⟨#[]⟩, ⟨#[]⟩, bareQ x.quote⟩ := by unfold bareI; simp [c]
    have := h3 c
    rw [eb, ei, List.append_assoc]
    unfold insR
    rw [e0]
    simp only
    rw [qt_back this.1 this.2 r]
    simp [c]
  · have eb : insB qtP x = numB x.op ++ (textB x.lib ++ textB x.own) := by unfold insB; simp [c]
    have ei : bareI x = insG x.op x.lib x.own := by unfold bareI; simp [c]
    have q1 := h4 c
    have q2 := h5 (Or.inl c)
    rw [eb, ei, List.append_assoc, List.append_assoc]
    unfold insR
    rw [e0]
    simp only
    rw [textR_textB (s := x.lib) _ (by omega)]
    simp only
    rw [textR_textB (s := x.own) r (by omega)]
    simp [c, str_back]
  · have eb : insB qtP x = numB x.op ++ textB x.own := by unfold insB; simp [c]
    have ei : bareI x = insG x.op ⟨#[]⟩ x.own := by unfold bareI; simp [c]
    have q2 := h5 (Or.inr c)
    rw [eb, ei, List.append_assoc]
    unfold insR
    rw [e0]
    simp only
    rw [textR_textB (s := x.own) r (by omega)]
    simp [c, str_back]
  · have eb : insB qtP x = numB x.op ++ numB x.a := by unfold insB; simp [c]
    have ei : bareI x = insA x.op x.a := by unfold bareI; simp [c]
    have := h6 c
    rw [eb, ei, List.append_assoc]
    unfold insR
    rw [e0]
    simp only
    rw [numR_numB (by omega) (by omega) r false]
    simp [c]
theorem layW_all (op : Int) : layW op = 0 ∨ layW op = 1 ∨ layW op = 2 ∨ layW op = 3 ∨ layW op = 4 ∨ layW op = 5 ∨ layW op = 6 := by
  unfold layW
  (repeat' split) <;> simp
theorem ins_of {l r : List UInt8} {bad : Bool} {x : In} (h : insR qrP l bad = some (x, r, false)) : bad = false ∧ l = insB qtP x ++ r := by
  unfold insR at h
  cases e : numR l bad with
  | mk op p =>
  obtain ⟨l1, b1⟩ := p
  simp only [e] at h
  rcases layW_all op with c | c | c | c | c | c | c
  · rw [if_pos c] at h; simp at h
  · rw [if_neg (by rw [c]; decide), if_pos c] at h
    simp only [Option.some.injEq, Prod.mk.injEq] at h
    obtain ⟨rfl, rfl, rfl⟩ := h
    obtain ⟨a1, a2, _⟩ := numR_of e
    refine ⟨a1, ?_⟩
    rw [a2]; unfold insB; simp [insO, c]
  · rw [if_neg (by rw [c]; decide), if_neg (by rw [c]; decide), if_pos c] at h
    cases e2 : numR l1 b1 with
    | mk n p2 =>
    obtain ⟨l2, b2⟩ := p2
    simp only [e2, Option.some.injEq, Prod.mk.injEq] at h
    obtain ⟨rfl, rfl, rfl⟩ := h
    obtain ⟨rfl, d2, _⟩ := numR_of e2
    obtain ⟨a1, a2, _⟩ := numR_of e
    refine ⟨a1, ?_⟩
    rw [a2, d2]; unfold insB; simp [insN, c]
  · rw [if_neg (by rw [c]; decide), if_neg (by rw [c]; decide), if_neg (by rw [c]; decide), if_pos c] at h
    cases e2 : qrP l1 b1 with
    | none => rw [e2] at h; simp at h
    | some q =>
    obtain ⟨d, l2, b2⟩ := q
    simp only [e2, Option.map_some, Option.some.injEq, Prod.mk.injEq] at h
    obtain ⟨rfl, rfl, rfl⟩ := h
    obtain ⟨rfl, d2⟩ := qr_of e2
    obtain ⟨a1, a2, _⟩ := numR_of e
    refine ⟨a1, ?_⟩
    rw [a2, d2]; unfold insB; simp [c]
  · rw [if_neg (by rw [c]; decide), if_neg (by rw [c]; decide), if_neg (by rw [c]; decide), if_neg (by rw [c]; decide), if_pos c] at h
    cases e2 : textR l1 b1 with
    | mk t p2 =>
    obtain ⟨l2, b2⟩ := p2
    simp only [e2] at h
    cases e3 : textR l2 b2 with
    | mk t3 p3 =>
    obtain ⟨l3, b3⟩ := p3
    simp only [e3, Option.some.injEq, Prod.mk.injEq] at h
    obtain ⟨rfl, rfl, rfl⟩ := h
    obtain ⟨rfl, f2⟩ := textR_of e3
    obtain ⟨rfl, d2⟩ := textR_of e2
    obtain ⟨a1, a2, _⟩ := numR_of e
    refine ⟨a1, ?_⟩
    rw [a2, d2, f2]; unfold insB; simp [insG, c]
  · rw [if_neg (by rw [c]; decide), if_neg (by rw [c]; decide), if_neg (by rw [c]; decide), if_neg (by rw [c]; decide), if_neg (by rw [c]; decide), if_pos c] at h
    cases e2 : textR l1 b1 with
    | mk t p2 =>
    obtain ⟨l2, b2⟩ := p2
    simp only [e2, Option.some.injEq, Prod.mk.injEq] at h
    obtain ⟨rfl, rfl, rfl⟩ := h
    obtain ⟨rfl, d2⟩ := textR_of e2
    obtain ⟨a1, a2, _⟩ := numR_of e
    refine ⟨a1, ?_⟩
    rw [a2, d2]; unfold insB; simp [insG, c]
  · rw [if_neg (by rw [c]; decide), if_neg (by rw [c]; decide), if_neg (by rw [c]; decide), if_neg (by rw [c]; decide), if_neg (by rw [c]; decide), if_neg (by rw [c]; decide)] at h
    cases e2 : numR l1 b1 with
    | mk n p2 =>
    obtain ⟨l2, b2⟩ := p2
    simp only [e2, Option.some.injEq, Prod.mk.injEq] at h
    obtain ⟨rfl, rfl, rfl⟩ := h
    obtain ⟨rfl, d2, _⟩ := numR_of e2
    obtain ⟨a1, a2, _⟩ := numR_of e
    refine ⟨a1, ?_⟩
    rw [a2, d2]; unfold insB; simp [insA, c]
theorem code_of : ∀ (n : Nat) (l : List UInt8) (bad : Bool) (xs : List In) (r : List UInt8), codeR qrP n l bad = some (xs, r, false) → bad = false ∧ xs.length = n ∧ l = xs.flatMap (insB qtP) ++ r
  | 0, l, bad, xs, r, h => by
    simp only [codeR, Option.some.injEq, Prod.mk.injEq] at h
    obtain ⟨rfl, rfl, rfl⟩ := h
    exact ⟨rfl, rfl, rfl⟩
  | n + 1, l, bad, xs, r, h => by
    rw [codeR] at h
    cases e : insR qrP l bad with
    | none => rw [e] at h; simp at h
    | some y =>
      obtain ⟨x, l1, b1⟩ := y
      rw [e] at h
      simp only at h
      by_cases hb : b1 = true
      · rw [if_pos hb] at h; simp at h
      rw [if_neg hb] at h
      have hb1 : b1 = false := by simpa using hb
      subst hb1
      cases e2 : codeR qrP n l1 false with
      | none => rw [e2] at h; simp at h
      | some z =>
        obtain ⟨ys, r2, b2⟩ := z
        rw [e2] at h
        simp only [Option.map_some, Option.some.injEq, Prod.mk.injEq] at h
        obtain ⟨rfl, rfl, rfl⟩ := h
        obtain ⟨_, k1, k2⟩ := code_of n l1 false ys r2 e2
        obtain ⟨a1, a2⟩ := ins_of e
        exact ⟨a1, by rw [List.length_cons, k1], by rw [a2, k2, List.flatMap_cons, List.append_assoc]⟩
theorem proto_of {l r : List UInt8} {bad : Bool} {P : Pro} (h : protoR qrP l bad = some (P, r, false)) : bad = false ∧ l = protoB qtP P ++ r := by
  unfold protoR at h
  cases e1 : numR l bad with
  | mk ar p1 =>
  obtain ⟨l1, b1⟩ := p1
  simp only [e1] at h
  cases e2 : countR l1 b1 with
  | mk cn p2 =>
  obtain ⟨l2, b2⟩ := p2
  simp only [e2] at h
  cases e3 : codeR qrP cn.toNat l2 b2 with
  | none => rw [e3] at h; simp at h
  | some z =>
    obtain ⟨xs, r3, b3⟩ := z
    rw [e3] at h
    simp only [Option.map_some, Option.some.injEq, Prod.mk.injEq] at h
    obtain ⟨rfl, rfl, rfl⟩ := h
    obtain ⟨rfl, k1, k2⟩ := code_of _ _ _ _ _ e3
    obtain ⟨rfl, c1, c2, _⟩ := countR_of e2
    obtain ⟨a1, a2, _⟩ := numR_of e1
    refine ⟨a1, ?_⟩
    have hc : ((xs.length : Nat) : Int) = cn := by rw [k1]; omega
    unfold protoB
    simp only
    rw [hc, a2, c1, k2]
    simp
theorem protos_of : ∀ (n : Nat) (l : List UInt8) (bad : Bool) (xs : List Pro) (r : List UInt8), protosR qrP n l bad = some (xs, r, false) → bad = false ∧ xs.length = n ∧ l = xs.flatMap (protoB qtP) ++ r
  | 0, l, bad, xs, r, h => by
    simp only [protosR, Option.some.injEq, Prod.mk.injEq] at h
    obtain ⟨rfl, rfl, rfl⟩ := h
    exact ⟨rfl, rfl, rfl⟩
  | n + 1, l, bad, xs, r, h => by
    rw [protosR] at h
    cases e : protoR qrP l bad with
    | none => rw [e] at h; simp at h
    | some y =>
      obtain ⟨x, l1, b1⟩ := y
      rw [e] at h
      simp only at h
      by_cases hb : b1 = true
      · rw [if_pos hb] at h; simp at h
      rw [if_neg hb] at h
      have hb1 : b1 = false := by simpa using hb
      subst hb1
      cases e2 : protosR qrP n l1 false with
      | none => rw [e2] at h; simp at h
      | some z =>
        obtain ⟨ys, r2, b2⟩ := z
        rw [e2] at h
        simp only [Option.map_some, Option.some.injEq, Prod.mk.injEq] at h
        obtain ⟨rfl, rfl, rfl⟩ := h
        obtain ⟨_, k1, k2⟩ := protos_of n l1 false ys r2 e2
        obtain ⟨a1, a2⟩ := proto_of e
        exact ⟨a1, by rw [List.length_cons, k1], by rw [a2, k2, List.flatMap_cons, List.append_assoc]⟩
theorem unit_of {l r : List UInt8} {bad : Bool} {nm : ByteArray} {PP : List Pro} (h : unitR qrP l bad = some ((nm, PP), r, false)) : bad = false ∧ l = unitB qtP nm PP ++ r := by
  unfold unitR at h
  cases e1 : textR l bad with
  | mk t p1 =>
  obtain ⟨l1, b1⟩ := p1
  simp only [e1] at h
  cases e2 : countR l1 b1 with
  | mk cn p2 =>
  obtain ⟨l2, b2⟩ := p2
  simp only [e2] at h
  cases e3 : protosR qrP cn.toNat l2 b2 with
  | none => rw [e3] at h; simp at h
  | some z =>
    obtain ⟨xs, r3, b3⟩ := z
    rw [e3] at h
    simp only [Option.map_some, Option.some.injEq, Prod.mk.injEq] at h
    obtain ⟨⟨rfl, rfl⟩, rfl, rfl⟩ := h
    obtain ⟨rfl, k1, k2⟩ := protos_of _ _ _ _ _ e3
    obtain ⟨rfl, c1, c2, _⟩ := countR_of e2
    obtain ⟨a1, a2⟩ := textR_of e1
    refine ⟨a1, ?_⟩
    have hc : ((xs.length : Nat) : Int) = cn := by rw [k1]; omega
    unfold unitB
    rw [hc, a2, c1, k2]
    simp
theorem code_back : ∀ (code : List In), (∀ x ∈ code, Fit x) → ∀ r, codeR qrP code.length (code.flatMap (insB qtP) ++ r) false = some (code.map bareI, r, false)
  | [], _, r => rfl
  | x :: c, h, r => by
    rw [List.length_cons, codeR, List.flatMap_cons, List.append_assoc, ins_back (h x List.mem_cons_self)]
    simp only
    rw [if_neg (by simp), code_back c (fun y hy => h y (List.mem_cons_of_mem _ hy)) r]
    rfl
def bareP (P : Pro) : Pro := ⟨P.args, P.code.map bareI⟩
theorem insB_ne (x : In) : 1 ≤ (insB qtP x).length := by
  unfold insB
  rw [List.length_append]
  have := numB_ne x.op
  omega
theorem flat_ge {α : Type} {f : α → List UInt8} (hf : ∀ x, 1 ≤ (f x).length) : ∀ (l : List α), l.length ≤ (l.flatMap f).length
  | [] => by simp
  | x :: r => by
    rw [List.flatMap_cons, List.length_append, List.length_cons]
    have := hf x
    have := flat_ge hf r
    omega
def FitP (P : Pro) : Prop := (0 ≤ P.args ∧ P.args ≤ 2000) ∧ P.code.length ≤ 6000 ∧ ∀ x ∈ P.code, Fit x
theorem proto_back {P : Pro} (h : FitP P) (r : List UInt8) : protoR qrP (protoB qtP P ++ r) false = some (bareP P, r, false) := by
  obtain ⟨ha, hc, hx⟩ := h
  have hg := flat_ge insB_ne P.code
  unfold protoR protoB
  rw [List.append_assoc, List.append_assoc, numR_numB (by omega) (by omega)]
  simp only
  rw [countR_numB (by rw [List.length_append]; omega) (by omega)]
  simp only [Int.toNat_natCast]
  rw [code_back P.code hx r]
  rfl
theorem protos_back : ∀ (PP : List Pro), (∀ P ∈ PP, FitP P) → ∀ r, protosR qrP PP.length (PP.flatMap (protoB qtP) ++ r) false = some (PP.map bareP, r, false)
  | [], _, r => rfl
  | P :: c, h, r => by
    rw [List.length_cons, protosR, List.flatMap_cons, List.append_assoc, proto_back (h P List.mem_cons_self)]
    simp only
    rw [if_neg (by simp), protos_back c (fun y hy => h y (List.mem_cons_of_mem _ hy)) r]
    rfl
theorem protoB_ne (P : Pro) : 1 ≤ (protoB qtP P).length := by
  unfold protoB
  rw [List.length_append, List.length_append]
  have := numB_ne P.args
  omega
theorem unit_back {nm : ByteArray} {PP : List Pro} (hn : nm.size ≤ 60) (hp : PP.length ≤ 500) (h : ∀ P ∈ PP, FitP P) : unitR qrP (unitB qtP nm PP) false = some ((nm, PP.map bareP), [], false) := by
  have hg := flat_ge protoB_ne PP
  have e := protos_back PP h []
  rw [List.append_nil] at e
  unfold unitR unitB
  rw [List.append_assoc, textR_textB _ (by omega)]
  simp only
  rw [countR_numB hg (by omega)]
  simp only [Int.toNat_natCast]
  rw [e]
  simp [str_back]
theorem insR_some (l : List UInt8) (bad : Bool) : ∃ y, insR qrP l bad = some y := by
  unfold insR
  obtain ⟨y, hy⟩ := qrP_some (numR l bad).2.1 (numR l bad).2.2
  rw [hy]
  repeat' split
  all_goals exact ⟨_, rfl⟩
theorem codeR_some : ∀ (n : Nat) (l : List UInt8) (bad : Bool), ∃ y, codeR qrP n l bad = some y
  | 0, l, bad => ⟨_, rfl⟩
  | n + 1, l, bad => by
    obtain ⟨x, hx⟩ := insR_some l bad
    obtain ⟨z, hz⟩ := codeR_some n x.2.1 x.2.2
    rw [codeR, hx]
    simp only
    rw [hz]
    split
    · exact ⟨_, rfl⟩
    · exact ⟨_, rfl⟩
theorem protoR_some (l : List UInt8) (bad : Bool) : ∃ y, protoR qrP l bad = some y := by
  unfold protoR
  obtain ⟨z, hz⟩ := codeR_some (countR (numR l bad).2.1 (numR l bad).2.2).1.toNat (countR (numR l bad).2.1 (numR l bad).2.2).2.1 (countR (numR l bad).2.1 (numR l bad).2.2).2.2
  rw [hz]
  exact ⟨_, rfl⟩
theorem protosR_some : ∀ (n : Nat) (l : List UInt8) (bad : Bool), ∃ y, protosR qrP n l bad = some y
  | 0, l, bad => ⟨_, rfl⟩
  | n + 1, l, bad => by
    obtain ⟨x, hx⟩ := protoR_some l bad
    obtain ⟨z, hz⟩ := protosR_some n x.2.1 x.2.2
    rw [protosR, hx]
    simp only
    rw [hz]
    split
    · exact ⟨_, rfl⟩
    · exact ⟨_, rfl⟩
theorem parseU_some (bs : List UInt8) : ∃ y, parseU qrP bs = some y := by
  unfold parseU unitR
  obtain ⟨z, hz⟩ := protosR_some (countR (textR bs false).2.1 (textR bs false).2.2).1.toNat (countR (textR bs false).2.1 (textR bs false).2.2).2.1 (countR (textR bs false).2.1 (textR bs false).2.2).2.2
  rw [hz]
  split
  · exact ⟨_, rfl⟩
  · exact ⟨_, rfl⟩
/-- What is wrong with a unit is wrong with it bare, and nothing else. -/
theorem moves_bare (x : In) : movesI (bareI x) = movesI x := by
  have ho : (bareI x).op = x.op := by unfold bareI; (repeat' split) <;> rfl
  unfold movesI
  rw [ho]
  by_cases h8 : x.op = 8
  · have : (bareI x).a = x.a := by unfold bareI; rw [h8]; rfl
    rw [this]
  · simp [h8]
theorem bare_op (x : In) : (bareI x).op = x.op := by unfold bareI; (repeat' split) <;> rfl
theorem bare_a {x : In} (h : layW x.op = 6) : (bareI x).a = x.a := by unfold bareI; simp [h, insA]
theorem leave_bare (last : Int) (h : List Int) (place : Nat) (x : In) : leaveH last h place (bareI x) = leaveH last h place x := by
  unfold leaveH
  rw [moves_bare, bare_op]
  by_cases h9 : x.op = 9
  · rw [bare_a (by rw [h9]; decide)]
  by_cases h10 : x.op = 10
  · rw [bare_a (by rw [h10]; decide)]
  simp [h9, h10]
theorem walk_bare (last : Int) : ∀ (l : List In) (place : Nat) (h : List Int), walkS last place (l.map bareI) h = walkS last place l h
  | [], _, _ => rfl
  | x :: r, place, h => by
    rw [List.map_cons, walkS, walkS, leave_bare]
    cases leaveH last h place x with
    | none => rfl
    | some h' => simp only [walk_bare last r]
theorem stack_bare (l : List In) (b : Bool) : stackOk (l.map bareI) b = stackOk l b := by
  unfold stackOk
  rw [walk_bare, List.length_map]
theorem ins_bare {PP : List Pro} {q len : Nat} {x : In} {K : Kn} (h : (insW PP nameW q len x K).1 = 0) : insW (PP.map bareP) nameW q len (bareI x) K = insW PP nameW q len x K := by
  have hc : ∀ a, closeW (PP.map bareP) q a K = closeW PP q a K := fun a => by
    unfold closeW
    rw [List.length_map]
    have : ((PP.map bareP).getD a.toNat ⟨0, []⟩).args = (PP.getD a.toNat ⟨0, []⟩).args := by
      rw [List.getD_eq_getElem?_getD, List.getD_eq_getElem?_getD, List.getElem?_map]
      cases PP[a.toNat]? <;> rfl
    rw [this]
  unfold insW at h ⊢
  rw [bare_op]
  by_cases h1 : x.op = 1
  · simp only [h1, if_true]; unfold bareI; simp [h1, layW, insN]
  by_cases h2 : x.op = 2
  · simp only [h2, if_true]; unfold bareI; simp [h2, layW, insN]
  by_cases h3 : x.op = 3
  · rw [if_neg h1, if_neg h2, if_pos h3] at h
    rw [if_neg h1, if_neg h2, if_pos h3, if_neg h1, if_neg h2, if_pos h3]
    have : (bareI x).quote = bareQ x.quote := by unfold bareI; simp [h3, layW]
    rw [this]
    have h' : (wrong [x.quote]).1 = 0 := h
    rw [wrong_bare h', h']
  by_cases h4 : x.op = 4 ∨ x.op = 11
  · have : (bareI x).a = x.a := bare_a (by unfold layW; rcases h4 with e | e <;> rw [e] <;> decide)
    simp [h1, h2, h3, h4, this]
  by_cases h5 : x.op = 5 ∨ x.op = 12 ∨ x.op = 13
  · have : nameW (bareI x) = nameW x := by
      have e : layW x.op = 4 := by unfold layW; rcases h5 with e | e | e <;> rw [e] <;> decide
      unfold bareI nameW; simp [e, insG]
    simp [h1, h2, h3, h4, h5, this]
  by_cases h6 : x.op = 6
  · have : (bareI x).own = x.own := by unfold bareI; simp [h6, layW, insG]
    rw [this]
    simp [h1, h2, h3, h4, h5, h6]
  by_cases h7 : x.op = 7
  · have : (bareI x).a = x.a := bare_a (by rw [h7]; decide)
    rw [this, hc]
    simp [h1, h2, h3, h4, h5, h6, h7]
  by_cases h8 : x.op = 8
  · have : (bareI x).a = x.a := bare_a (by rw [h8]; decide)
    rw [this]
    simp [h8]
  by_cases h9 : x.op = 9 ∨ x.op = 10
  · have : (bareI x).a = x.a := bare_a (by unfold layW; rcases h9 with e | e <;> rw [e] <;> decide)
    rw [this]
    simp [h1, h2, h3, h4, h5, h6, h7, h8, h9]
  simp [h1, h2, h3, h4, h5, h6, h7, h8, h9]
theorem code_bare {PP : List Pro} {q len : Nat} : ∀ (l : List In) (K : Kn), (codeW PP nameW q len l K).1 = 0 → codeW (PP.map bareP) nameW q len (l.map bareI) K = codeW PP nameW q len l K
  | [], K, _ => rfl
  | x :: r, K, h => by
    rw [codeW] at h
    by_cases e : (insW PP nameW q len x K).1 = 0
    · rw [if_pos e] at h
      rw [List.map_cons, codeW, ins_bare e, if_pos e, code_bare r _ h, codeW, if_pos e]
    · rw [if_neg e] at h; exact absurd h e
theorem getP_bare (PP : List Pro) (q : Nat) : ((PP.map bareP).getD q ⟨0, []⟩) = bareP (PP.getD q ⟨0, []⟩) := by
  rw [List.getD_eq_getElem?_getD, List.getD_eq_getElem?_getD, List.getElem?_map]
  cases PP[q]? <;> rfl
theorem proto_bare {PP : List Pro} {q : Nat} {K : Kn} (h : (protoW PP nameW q K).1 = 0) : protoW (PP.map bareP) nameW q K = protoW PP nameW q K := by
  unfold protoW at h ⊢
  rw [getP_bare]
  cases e : K.getD q none with
  | none => rfl
  | some s =>
    rw [e] at h
    simp only at h ⊢
    have el : (bareP (PP.getD q ⟨0, []⟩)).code.length = (PP.getD q ⟨0, []⟩).code.length := by unfold bareP; simp
    have ec : (bareP (PP.getD q ⟨0, []⟩)).code = (PP.getD q ⟨0, []⟩).code.map bareI := rfl
    by_cases e2 : (codeW PP nameW q (PP.getD q ⟨0, []⟩).code.length (PP.getD q ⟨0, []⟩).code K).1 = 0
    · rw [el, ec, code_bare _ _ e2, stack_bare]
    · rw [if_neg e2] at h; exact absurd h e2
theorem protos_bare {PP : List Pro} : ∀ (n q : Nat) (K : Kn), protosW PP nameW n q K = 0 → protosW (PP.map bareP) nameW n q K = 0
  | 0, q, K, _ => rfl
  | n + 1, q, K, h => by
    rw [protosW] at h
    by_cases e : (protoW PP nameW q K).1 = 0
    · rw [if_pos e] at h
      rw [protosW, proto_bare e, if_pos e]
      exact protos_bare n (q + 1) _ h
    · rw [if_neg e] at h; exact absurd h e
theorem sizes_bare : ∀ (PP : List Pro), sizesW (PP.map bareP) = sizesW PP
  | [] => rfl
  | P :: r => by
    rw [List.map_cons, sizesW, sizesW, sizes_bare r]
    have e : (bareP P).code.length = P.code.length := by unfold bareP; simp
    rw [e]
    rfl
theorem bodies_bare {PP : List Pro} : ∀ (l : List Int) (K : Kn), bodiesW (PP.map bareP) l K = bodiesW PP l K
  | [], K => rfl
  | b :: r, K => by
    rw [bodiesW, bodiesW, List.length_map, getP_bare, bodies_bare r]
    rfl
theorem wrongU_bare {nm : ByteArray} {PP : List Pro} (h : wrongU nm PP = 0) : wrongU nm (PP.map bareP) = 0 := by
  unfold wrongU at h ⊢
  rw [List.length_map]
  by_cases h1 : plainB nm = false
  · rw [if_pos h1] at h; simp at h
  rw [if_neg h1] at h ⊢
  by_cases h2 : PP.length < 1 ∨ 500 < PP.length
  · rw [if_pos h2] at h; simp at h
  rw [if_neg h2] at h ⊢
  unfold wrongPs at h ⊢
  rw [sizes_bare, List.length_map, bodies_bare]
  by_cases h3 : sizesW PP ≠ 0
  · rw [if_pos h3] at h; exact absurd h h3
  rw [if_neg h3] at h ⊢
  by_cases h4 : (bodiesW PP [0] (List.replicate PP.length none)).1 ≠ 0
  · rw [if_pos h4] at h; exact absurd h h4
  rw [if_neg h4] at h ⊢
  exact protos_bare _ _ _ h
end
end Go.Proofs.YtdnbingddbakaaaGreatDoor
