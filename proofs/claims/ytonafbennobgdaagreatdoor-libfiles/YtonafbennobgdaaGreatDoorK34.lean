/- Chapter 3, plainly: LibSplit, LibElse, LibFiles. Chapter 1, plainly: WHAT IS READ has nothing but what its kinds have. Chapter 3, plainly: LibElse, LibFiles. -/
import Derived.Test.YtonafbennobgdaaGreatDoorK02
namespace Go.Proofs.YtonafbennobgdaaGreatDoor
section
set_option linter.unusedVariables false
set_option linter.unusedSimpArgs false

theorem wrong_one (d : Dat) : (wrong [d]).1 = (chk 40 d 0).1 := by
  unfold wrong wrongFrom
  by_cases h : (chk 40 d 0).1 = 0
  · rw [if_pos h, h]; rfl
  · rw [if_neg h]
theorem chkL_append (g : Dat → Nat → Int × Nat) : ∀ (a b : List Dat) (n : Nat), chkL g (a ++ b) n = if (chkL g a n).1 = 0 then chkL g b (chkL g a n).2 else chkL g a n
  | [], b, n => by simp [chkL]
  | d :: r, b, n => by
    rw [List.cons_append]
    show (if (g d n).1 = 0 then chkL g (r ++ b) (g d n).2 else g d n) = _
    by_cases h : (g d n).1 = 0
    · have e : chkL g (d :: r) n = chkL g r (g d n).2 := by show (if (g d n).1 = 0 then _ else _) = _; rw [if_pos h]
      rw [if_pos h, e, chkL_append g r b]
    · have e : chkL g (d :: r) n = g d n := by show (if (g d n).1 = 0 then _ else _) = _; rw [if_neg h]
      rw [if_neg h, e, if_neg h]
theorem chkL_shift (g : Dat → Nat → Int × Nat) (hg : ∀ d n k, (g d n).1 ≠ 4 → (g d (n + k)).1 ≠ 4 → g d (n + k) = ((g d n).1, (g d n).2 + k)) : ∀ (l : List Dat) (n k : Nat), (chkL g l n).1 ≠ 4 → (chkL g l (n + k)).1 ≠ 4 → chkL g l (n + k) = ((chkL g l n).1, (chkL g l n).2 + k)
  | [], n, k, _, _ => rfl
  | d :: r, n, k, h1, h2 => by
    unfold chkL at h1 h2 ⊢
    have a2 : (g d (n + k)).1 ≠ 4 := by
      intro e
      rw [if_neg (by rw [e]; decide)] at h2
      exact h2 e
    have a1 : (g d n).1 ≠ 4 := by
      intro e
      rw [if_neg (by rw [e]; decide)] at h1
      exact h1 e
    have e := hg d n k a1 a2
    rw [e] at h2 ⊢
    by_cases h : (g d n).1 = 0
    · rw [if_pos h] at h1 h2 ⊢
      rw [if_pos h]
      exact chkL_shift g hg r _ k h1 h2
    · rw [if_neg h, if_neg h]
theorem chk_shift : ∀ (f : Nat) (d : Dat) (n k : Nat), (chk f d n).1 ≠ 4 → (chk f d (n + k)).1 ≠ 4 → chk f d (n + k) = ((chk f d n).1, (chk f d n).2 + k)
  | 0, d, n, k, h, _ => absurd rfl h
  | f + 1, d, n, k, h1, h2 => by
    unfold chk at h1 h2 ⊢
    by_cases c1 : 2000 < n + 1
    · rw [if_pos c1] at h1; exact absurd rfl h1
    by_cases c2 : 2000 < n + k + 1
    · rw [if_pos c2] at h2; exact absurd rfl h2
    rw [if_neg c1] at h1 ⊢
    rw [if_neg c2] at h2 ⊢
    have e : n + k + 1 = n + 1 + k := by omega
    by_cases ha : alone d = 0
    · rw [if_pos ha] at h1 h2 ⊢
      rw [if_pos ha]
      by_cases hk : d.kind = 4
      · rw [if_pos hk] at h1 h2 ⊢
        rw [if_pos hk, e]
        rw [e] at h2
        exact chkL_shift _ (chk_shift f) _ _ _ h1 h2
      · rw [if_neg hk, if_neg hk, e]
    · rw [if_neg ha, if_neg ha, e]

/-- A list, and a symbol, as they are made. -/
def liD (ks : List Dat) : Dat := ⟨4, 0, ⟨#[]⟩, 0, 0, ks⟩
def syD (s : ByteArray) : Dat := ⟨3, 0, s, 0, 0, []⟩
theorem chk_li (f : Nat) (ks : List Dat) (n : Nat) : chk (f + 1) (liD ks) n = if 2000 < n + 1 then (4, n + 1) else chkL (chk f) ks (n + 1) := by
  unfold chk
  by_cases c : 2000 < n + 1
  · rw [if_pos c, if_pos c]
  · rw [if_neg c, if_neg c]; rfl
theorem alone_sy {s : ByteArray} (h : namedB s = true) : alone (syD s) = 0 := by
  unfold alone syD
  simp [h]
theorem chk_sy (f : Nat) {s : ByteArray} (h : namedB s = true) (n : Nat) : chk (f + 1) (syD s) n = if 2000 < n + 1 then (4, n + 1) else (0, n + 1) := by
  unfold chk
  by_cases c : 2000 < n + 1
  · rw [if_pos c, if_pos c]
  · rw [if_neg c, if_neg c, if_pos (alone_sy h)]
    rfl
theorem chkL_cons (g : Dat → Nat → Int × Nat) (d : Dat) (r : List Dat) (n : Nat) : chkL g (d :: r) n = if (g d n).1 = 0 then chkL g r (g d n).2 else g d n := rfl
/-- A declaration of a word, so much further on. -/
theorem chk_word (f : Nat) {s : ByteArray} (h : namedB s = true) (a : List Dat) (n : Nat) : chk (f + 2) (liD (syD s :: a)) n = if 2000 < n + 2 then (4, min (n + 2) (max (n + 1) 2001)) else chkL (chk (f + 1)) a (n + 2) := by
  rw [chk_li]
  by_cases c : 2000 < n + 1
  · rw [if_pos c, if_pos (by omega)]
    congr 1
    omega
  · rw [if_neg c, chkL_cons, chk_sy f h]
    by_cases c2 : 2000 < n + 1 + 1
    · rw [if_pos c2, if_neg (show ¬ ((4 : Int) = 0) by decide), if_pos (by omega)]
      congr 1
      omega
    · rw [if_neg c2, if_pos rfl, if_neg (by omega)]
theorem split_chk (f : Nat) {s : ByteArray} (h : namedB s = true) (a b : List Dat) (n : Nat) :
    (chkL (chk (f + 2)) [liD (syD s :: (a ++ b))] n).1 = 4 ∨ (chkL (chk (f + 2)) [liD (syD s :: a), liD (syD s :: b)] n).1 = 4 ∨
    (chkL (chk (f + 2)) [liD (syD s :: (a ++ b))] n).1 = (chkL (chk (f + 2)) [liD (syD s :: a), liD (syD s :: b)] n).1 := by
  have one : ∀ x : Int × Nat, (if x.1 = 0 then chkL (chk (f + 2)) [] x.2 else x).1 = x.1 := fun x => by
    by_cases e : x.1 = 0
    · rw [if_pos e, e]; rfl
    · rw [if_neg e]
  rw [chkL_cons, one, chkL_cons, chkL_cons, chk_word f h, chk_word f h]
  by_cases c : 2000 < n + 2
  · rw [if_pos c, if_pos c]; exact Or.inl rfl
  rw [if_neg c, if_neg c, chkL_append]
  by_cases ha : (chkL (chk (f + 1)) a (n + 2)).1 = 0
  · rw [if_pos ha, if_pos ha, one, chk_word f h]
    generalize (chkL (chk (f + 1)) a (n + 2)).2 = m
    by_cases c2 : 2000 < m + 2
    · rw [if_pos c2]; exact Or.inr (Or.inl rfl)
    · rw [if_neg c2]
      by_cases d1 : (chkL (chk (f + 1)) b m).1 = 4
      · exact Or.inl d1
      by_cases d2 : (chkL (chk (f + 1)) b (m + 2)).1 = 4
      · exact Or.inr (Or.inl d2)
      exact Or.inr (Or.inr (by rw [chkL_shift _ (chk_shift (f + 1)) b m 2 d1 d2]))
  · rw [if_neg ha, if_neg ha]
    exact Or.inr (Or.inr rfl)
/-- A library m with these declarations. -/
def bM : ByteArray := ⟨#[109]⟩
def libM (l : List Dat) : Dat := liD (syD bLibrary :: liD [syD bM] :: l)
theorem named_lib : namedB bLibrary = true := by decide
theorem named_m : namedB bM = true := by decide
theorem libM_wrong (l : List Dat) : (wrong [libM l]).1 = (chkL (chk 39) l 4).1 := by
  rw [wrong_one]
  unfold libM
  have e1 : chk 39 (syD bLibrary) 1 = (0, 2) := by rw [chk_sy 38 named_lib]; rfl
  have e3 : chk 38 (syD bM) 3 = (0, 4) := by rw [chk_sy 37 named_m]; rfl
  have e2 : chk 39 (liD [syD bM]) 2 = (0, 4) := by
    rw [chk_li, if_neg (by decide), chkL_cons, e3, if_pos rfl]; rfl
  rw [chk_li, if_neg (by decide), chkL_cons, e1, if_pos rfl, chkL_cons, e2, if_pos rfl]
theorem Er.bind_assoc {α β γ : Type} (x : Er α) (f : α → Er β) (g : β → Er γ) : (x.bind f).bind g = x.bind fun a => (f a).bind g := by cases x <;> rfl
theorem Er.bind_ok {α : Type} (x : Er α) : (x.bind fun a => .ok a) = x := by cases x <;> rfl
theorem exportsF_append : ∀ (a b : List Dat) (s : LibS), exportsF (a ++ b) s = (exportsF a s).bind fun s' => exportsF b s'
  | [], b, s => by rw [exportsF]; rfl
  | d :: r, b, s => by
    rw [List.cons_append, exportsF, exportsF, Er.bind_assoc]
    congr 1
    funext e
    by_cases h : s.exports.any (fun x => decide (x.1 = e.1)) = true
    · rw [if_pos h, if_pos h]; rfl
    · rw [if_neg h, if_neg h]
      by_cases h2 : s.exports.length < 200
      · rw [if_pos h2, if_pos h2]
        exact exportsF_append r b _
      · rw [if_neg h2, if_neg h2]; rfl
theorem exportsF_name : ∀ (a : List Dat) (s s' : LibS), exportsF a s = .ok s' → s'.name = s.name
  | [], s, s', h => by rw [exportsF] at h; cases h; rfl
  | d :: r, s, s', h => by
    rw [exportsF] at h
    cases he : exportF d with
    | no x => rw [he] at h; cases h
    | ok e =>
      rw [he] at h
      simp only [Er.bind] at h
      split at h
      · cases h
      · split at h
        · exact (exportsF_name r _ s' h).trans rfl
        · cases h
theorem importsF_append : ∀ (a b : List Dat) (s : LibS), importsF (a ++ b) s = (importsF a s).bind fun s' => importsF b s'
  | [], b, s => by rw [importsF]; rfl
  | d :: r, b, s => by
    rw [List.cons_append, importsF, importsF]
    by_cases h : s.imports.length < 20
    · rw [if_pos h, if_pos h, Er.bind_assoc]
      congr 1
      funext x
      exact importsF_append r b _
    · rw [if_neg h, if_neg h]; rfl
theorem includeF_append (E : Env) : ∀ (a b : List Dat) (s : LibS), includeF E (a ++ b) s = (includeF E a s).bind fun s' => includeF E b s'
  | [], b, s => by rw [includeF]; rfl
  | d :: r, b, s => by
    rw [List.cons_append, includeF, includeF, Er.bind_assoc]
    congr 1
    funext n
    cases fileF n E.files with
    | none => rfl
    | some t =>
      show (match readL t.data.toList with | .inl x => Er.no x.1 | .inr ds => (addF ds s).bind fun s' => includeF E (r ++ b) s') = Er.bind (match readL t.data.toList with | .inl x => Er.no x.1 | .inr ds => (addF ds s).bind fun s' => includeF E r s') _
      cases readL t.data.toList with
      | inl x => rfl
      | inr ds =>
        show ((addF ds s).bind fun s' => includeF E (r ++ b) s') = ((addF ds s).bind fun s' => includeF E r s').bind fun s' => includeF E b s'
        rw [Er.bind_assoc]
        congr 1
        funext s'
        exact includeF_append E r b s'
theorem bareQL_append : ∀ (a b : List Dat), bareQL (a ++ b) = bareQL a ++ bareQL b
  | [], b => by rw [bareQL]; rfl
  | d :: r, b => by rw [List.cons_append, bareQL, bareQL, bareQL_append r b]; rfl
theorem addF_append (a b : List Dat) (s : LibS) : addF (a ++ b) s = (addF a s).bind fun s' => addF b s' := by
  unfold addF
  rw [List.length_append]
  by_cases h : s.body.length + a.length ≤ 200
  · rw [if_pos h]
    show _ = (if (s.body ++ a).length + b.length ≤ 200 then _ else _)
    rw [List.length_append]
    by_cases h2 : s.body.length + a.length + b.length ≤ 200
    · rw [if_pos (by omega), if_pos h2, List.append_assoc]
    · rw [if_neg (by omega), if_neg h2]
  · rw [if_neg h, if_neg (by omega)]; rfl
theorem declD_li (E : Env) (ks : List Dat) (s : LibS) : declD E (liD ks) s = declK E ks s := by
  unfold liD
  rw [declD, if_pos rfl]
theorem declL_one (E : Env) (d : Dat) (s : LibS) : declL E [d] s = declD E d s := by
  rw [declL]
  cases declD E d s with
  | no x => rfl
  | ok s' => show declL E [] s' = _; rw [declL]
theorem declL_append (E : Env) : ∀ (a b : List Dat) (s : LibS), declL E (a ++ b) s = (declL E a s).bind fun s' => declL E b s'
  | [], b, s => by rw [declL]; rfl
  | d :: r, b, s => by
    rw [List.cons_append, declL, declL, Er.bind_assoc]
    congr 1
    funext s'
    exact declL_append E r b s'
/-- The words whose declarations may be split. -/
def splitW (w : ByteArray) : Prop := w = bBegin ∨ w = bImport ∨ w = bInclude ∨ w = bExport
theorem split_decl (E : Env) {w : ByteArray} (hw : splitW w) (a b : List Dat) (s : LibS) (hs : s.name ≠ ⟨#[]⟩) :
    declL E [liD (syD w :: (a ++ b))] s = declL E [liD (syD w :: a), liD (syD w :: b)] s := by
  rw [declL_one, declL, declD_li, declD_li, show (declL E [liD (syD w :: b)]) = fun s' => declD E (liD (syD w :: b)) s' from funext fun s' => declL_one E _ s']
  have e : ∀ s', declD E (liD (syD w :: b)) s' = declK E (syD w :: b) s' := fun s' => declD_li E _ s'
  rw [show (fun s' => declD E (liD (syD w :: b)) s') = fun s' => declK E (syD w :: b) s' from funext e]
  have kd : ∀ l s', declK E (syD w :: l) s' = (if w = bExport then (if s'.name = ⟨#[]⟩ then .no 2 else exportsF l s') else if w = bImport then importsF l s' else if w = bBegin then addF (bareQL l) s' else if w = bInclude then includeF E l s' else if w = bCond then declC E l s' else .no 2) := fun l s' => by
    rw [declK]; rfl
  rw [kd, kd, show (fun s' => declK E (syD w :: b) s') = _ from funext (kd b)]
  rcases hw with rfl | rfl | rfl | rfl
  · simp only [show ¬ bBegin = bExport from by decide, show ¬ bBegin = bImport from by decide, if_true, if_false]
    rw [bareQL_append, addF_append]
  · simp only [show ¬ bImport = bExport from by decide, if_true, if_false]
    rw [importsF_append]
  · simp only [show ¬ bInclude = bExport from by decide, show ¬ bInclude = bImport from by decide, show ¬ bInclude = bBegin from by decide, if_true, if_false]
    rw [includeF_append]
  · simp only [if_true]
    rw [if_neg hs, exportsF_append]
    rw [if_neg hs]
    cases hx : exportsF a s with
    | no x => rfl
    | ok s' =>
      show exportsF b s' = if s'.name = ⟨#[]⟩ then _ else _
      rw [if_neg (by rw [exportsF_name a s s' hx]; exact hs)]
theorem called_m : calledF (liD [syD bM]) = .ok bM := rfl
theorem allF_libM (E : Env) (l : List Dat) : allF E (libM l) = declL E l { lib0 with name := bM } := by
  have e : formF (libM l) = .ok (bLibrary, liD [syD bM] :: l) := rfl
  unfold allF
  rw [e]
  show (if bLibrary = bLibrary then (calledF (liD [syD bM])).bind (fun n => declL E l { lib0 with name := n }) else (if bLibrary = bProgram then declL E (liD [syD bM] :: l) lib0 else .no 2)) = _
  rw [if_pos rfl, called_m]
  rfl
/-- LIBSPLIT, plainly. -/
theorem split_plain (E : Env) {w : ByteArray} (hw : splitW w) (a b : List Dat) :
    parseF E (libM [liD (syD w :: (a ++ b))]) = .no 4 ∨ parseF E (libM [liD (syD w :: a), liD (syD w :: b)]) = .no 4 ∨ parseF E (libM [liD (syD w :: (a ++ b))]) = parseF E (libM [liD (syD w :: a), liD (syD w :: b)]) := by
  have hn : namedB w = true := by rcases hw with rfl | rfl | rfl | rfl <;> decide
  unfold parseF
  rw [libM_wrong, libM_wrong]
  rcases split_chk 37 hn a b 4 with h | h | h
  · refine Or.inl ?_
    rw [h, if_neg (by decide)]
  · refine Or.inr (Or.inl ?_)
    rw [h, if_neg (by decide)]
  · refine Or.inr (Or.inr ?_)
    rw [h, allF_libM, allF_libM, split_decl E hw a b _ (by decide)]
end
section
set_option linter.unusedVariables false
set_option linter.unusedSimpArgs false

theorem bareQ_li {ks : List Dat} (h : bareQL ks = ks) : bareQ (datList ks) = datList ks := by
  unfold datList
  rw [bareQ]
  simp [h]
theorem bareQ_sym (l : List UInt8) : bareQ (datSym l) = datSym l := by
  unfold datSym
  rw [bareQ]
  simp
theorem items_bare (g : Nat → Nat → Rd Dat) (l : List UInt8) (hg : ∀ i n d j m, g i n = .inr (d, j, m) → bareQ d = d) : ∀ (k i n : Nat) (ds : List Dat) (j m : Nat), items g l k i n = .inr (ds, j, m) → bareQL ds = ds
  | 0, i, n, ds, j, m, h => by simp [items] at h
  | k + 1, i, n, ds, j, m, h => by
    unfold items at h
    simp only at h
    cases hc : l[i + skipL (l.drop i) false]? with
    | none => rw [hc] at h; simp at h
    | some c =>
      rw [hc] at h
      simp only at h
      by_cases h41 : c = 41
      · rw [if_pos h41] at h
        simp at h
        obtain ⟨rfl, rfl, rfl⟩ := h
        rw [bareQL]
      · rw [if_neg h41] at h
        cases hgg : g (i + skipL (l.drop i) false) n with
        | inl e => rw [hgg] at h; simp at h
        | inr x =>
          obtain ⟨d, j1, m1⟩ := x
          rw [hgg] at h
          simp only at h
          cases hii : items g l k j1 m1 with
          | inl e => rw [hii] at h; simp at h
          | inr y =>
            obtain ⟨ds2, j2, m2⟩ := y
            rw [hii] at h
            simp at h
            obtain ⟨rfl, rfl, rfl⟩ := h
            rw [bareQL, hg _ _ _ _ _ hgg, items_bare g l hg k _ _ _ _ _ hii]
theorem one_bare (l : List UInt8) : ∀ (f i n : Nat) (d : Dat) (j m : Nat), one l f i n = .inr (d, j, m) → bareQ d = d
  | 0, i, n, d, j, m, h => by simp [one] at h
  | f + 1, i, n, d, j, m, h => by
    unfold one at h
    by_cases h2 : 2000 < n + 1
    · rw [if_pos h2] at h; simp at h
    rw [if_neg h2] at h
    cases hc : l[i]? with
    | none => rw [hc] at h; simp at h
    | some c =>
      rw [hc] at h
      simp only at h
      by_cases c40 : c = 40
      · rw [if_pos c40] at h
        cases hit : items (one l f) l (l.length + 1) (i + 1) (n + 1) with
        | inl e => rw [hit] at h; simp at h
        | inr y =>
          obtain ⟨ds, j2, m2⟩ := y
          rw [hit] at h
          simp at h
          obtain ⟨rfl, rfl, rfl⟩ := h
          exact bareQ_li (items_bare _ l (one_bare l f) _ _ _ _ _ _ hit)
      rw [if_neg c40] at h
      by_cases c39 : c = 39
      · rw [if_pos c39] at h
        by_cases hq : f = 0 ∨ 2000 < n + 2
        · rw [if_pos hq] at h; simp at h
        · rw [if_neg hq] at h
          cases ho : one l f (i + 1 + skipL (l.drop (i + 1)) false) (n + 2) with
          | inl e => rw [ho] at h; simp at h
          | inr y =>
            obtain ⟨d2, j2, m2⟩ := y
            rw [ho] at h
            simp at h
            obtain ⟨rfl, rfl, rfl⟩ := h
            refine bareQ_li ?_
            rw [bareQL, bareQL, bareQL, bareQ_sym, one_bare l f _ _ _ _ _ ho]
      rw [if_neg c39] at h
      by_cases c35 : c = 35
      · rw [if_pos c35] at h
        by_cases t1 : byteL (l.drop (i + 1)) = [116]
        · rw [if_pos t1] at h
          simp at h
          obtain ⟨rfl, rfl, rfl⟩ := h
          unfold datBool
          rw [bareQ]
          simp
        · rw [if_neg t1] at h
          by_cases t2 : byteL (l.drop (i + 1)) = [102]
          · rw [if_pos t2] at h
            simp at h
            obtain ⟨rfl, rfl, rfl⟩ := h
            unfold datBool
            rw [bareQ]
            simp
          · rw [if_neg t2] at h; simp at h
      rw [if_neg c35] at h
      by_cases hl : letB (c.toNat : Int) = true
      · rw [if_pos hl] at h
        unfold wordAt at h
        split at h
        · split at h
          · simp at h
          · split at h
            · simp at h
              obtain ⟨rfl, rfl, rfl⟩ := h
              unfold datNum
              rw [bareQ]
              simp
            · simp at h
        · split at h
          · simp at h
          · simp at h
            obtain ⟨rfl, rfl, rfl⟩ := h
            exact bareQ_sym _
      · rw [if_neg hl] at h; simp at h
theorem alls_bare (l : List UInt8) : ∀ (k i n : Nat) (ds : List Dat) (j m : Nat), alls l k i n = .inr (ds, j, m) → bareQL ds = ds
  | 0, i, n, ds, j, m, h => by
    simp [alls] at h
    obtain ⟨rfl, _, _⟩ := h
    rw [bareQL]
  | k + 1, i, n, ds, j, m, h => by
    unfold alls at h
    simp only at h
    by_cases h1 : l.length ≤ i + skipL (l.drop i) false
    · rw [if_pos h1] at h
      simp at h
      obtain ⟨rfl, _, _⟩ := h
      rw [bareQL]
    · rw [if_neg h1] at h
      cases hgg : one l 40 (i + skipL (l.drop i) false) n with
      | inl e => rw [hgg] at h; simp at h
      | inr x =>
        obtain ⟨d, j1, m1⟩ := x
        rw [hgg] at h
        simp only at h
        cases hii : alls l k j1 m1 with
        | inl e => rw [hii] at h; simp at h
        | inr y =>
          obtain ⟨ds2, j2, m2⟩ := y
          rw [hii] at h
          simp at h
          obtain ⟨rfl, rfl, rfl⟩ := h
          rw [bareQL, one_bare l _ _ _ _ _ _ hgg, alls_bare l k _ _ _ _ _ hii]
theorem read_bare {l : List UInt8} {ds : List Dat} (h : readL l = .inr ds) : bareQL ds = ds := by
  unfold readL at h
  split at h
  · simp at h
  · cases ha : alls l (l.length + 1) 0 0 with
    | inl e => rw [ha] at h; simp at h
    | inr x =>
      obtain ⟨ds2, j, m⟩ := x
      rw [ha] at h
      simp at h
      subst h
      exact alls_bare l _ _ _ _ _ _ ha
end
section
set_option linter.unusedVariables false
set_option linter.unusedSimpArgs false

/-- A program with these declarations. -/
def progD (l : List Dat) : Dat := liD (syD bProgram :: l)
/-- Of two ways one. -/
def condD (r : Dat) (x y : List Dat) : Dat := progD [liD [syD bCond, liD (r :: x), liD (syD bElse :: y)]]
def notD (r : Dat) : Dat := liD [syD bNot, r]
theorem allF_prog (E : Env) (l : List Dat) : allF E (progD l) = declL E l lib0 := by
  have e : formF (progD l) = .ok (bProgram, l) := rfl
  unfold allF
  rw [e]
  show (if bProgram = bLibrary then (match l with | [] => .no 2 | x :: r => (calledF x).bind fun n => declL E r { lib0 with name := n }) else (if bProgram = bProgram then declL E l lib0 else .no 2)) = _
  rw [if_neg (by decide), if_pos rfl]
theorem parse_ok {E : Env} {d : Dat} {l : LibS} (h : parseF E d = .ok l) : allF E d = .ok l := by
  unfold parseF at h
  split at h
  · split at h
    · exact h
    · cases h
  · cases h
theorem decl_condQ (E : Env) (r : Dat) (x y : List Dat) (s : LibS) : declD E (liD [syD bCond, liD (r :: x), liD (syD bElse :: y)]) s = (clauseF E r).bind fun b => if b then declL E x s else declL E y s := by
  rw [declD_li, declK]
  have k : ∀ l s', (if (syD bCond).kind = 3 then (if (syD bCond).name = bExport then (if s'.name = ⟨#[]⟩ then .no 2 else exportsF l s') else if (syD bCond).name = bImport then importsF l s' else if (syD bCond).name = bBegin then addF (bareQL l) s' else if (syD bCond).name = bInclude then includeF E l s' else if (syD bCond).name = bCond then declC E l s' else .no 2) else .no 2) = declC E l s' := fun l s' => rfl
  rw [k, declC]
  show declB E (liD (r :: x)) (fun s' => declC E [liD (syD bElse :: y)] s') s = _
  unfold liD
  rw [declB, if_pos rfl, declT]
  congr 1
theorem clause_not (E : Env) {r : Dat} (hr : ¬ (r.kind = 3 ∧ r.name = bElse)) : clauseF E (notD r) = (clauseF E r).bind fun b => .ok (!b) := by
  unfold clauseF
  rw [if_neg hr, if_neg (show ¬ ((notD r).kind = 3 ∧ (notD r).name = bElse) from fun h => absurd (show (4 : Int) = 3 from h.1) (by decide))]
  unfold notD liD
  rw [holdsD, if_neg (by decide), if_pos rfl, holdsK, if_pos (show (syD bNot).kind = 3 from rfl), if_neg (show ¬ (syD bNot).name = bLibrary by decide), if_pos (show (syD bNot).name = bNot from rfl), holdsN]
/-- LIBELSE, plainly. -/
theorem else_plain (E : Env) {r : Dat} (hr : ¬ (r.kind = 3 ∧ r.name = bElse)) (a b : List Dat) {x y p q : LibS} (hx : parseF E (condD r a b) = .ok x) (hy : parseF E (condD (notD r) b a) = .ok y) (hp : parseF E (progD a) = .ok p) (hq : parseF E (progD b) = .ok q) : x = y ∧ (x = p ∨ x = q) := by
  have hx := parse_ok hx
  have hy := parse_ok hy
  have hp := parse_ok hp
  have hq := parse_ok hq
  unfold condD at hx hy
  rw [allF_prog, declL_one, decl_condQ] at hx hy
  rw [allF_prog] at hp hq
  rw [clause_not E hr, Er.bind_assoc] at hy
  cases hc : clauseF E r with
  | no z => rw [hc] at hx; cases hx
  | ok t =>
    rw [hc] at hx hy
    cases t with
    | true =>
      have h1 : declL E a lib0 = .ok x := hx
      have h2 : declL E a lib0 = .ok y := hy
      rw [h1] at h2 hp
      cases h2
      cases hp
      exact ⟨rfl, Or.inl rfl⟩
    | false =>
      have h1 : declL E b lib0 = .ok x := hx
      have h2 : declL E b lib0 = .ok y := hy
      rw [h1] at h2 hq
      cases h2
      cases hq
      exact ⟨rfl, Or.inr rfl⟩
/-- Where what is around has more files. -/
def moreF (E E' : Env) : Prop := E'.features = E.features ∧ E'.libs = E.libs ∧ E.files = []
mutual
theorem holdsD_more {E E' : Env} (h : moreF E E') : ∀ (d : Dat), holdsD E' d = holdsD E d
  | ⟨k, n, nm, st, lb, ks⟩ => by
    rw [holdsD, holdsD, h.1]
    rw [holdsK_more h ks]
theorem holdsK_more {E E' : Env} (h : moreF E E') : ∀ (l : List Dat), holdsK E' l = holdsK E l
  | [] => by rw [holdsK, holdsK]
  | x :: r => by
    rw [holdsK, holdsK, h.2.1, holdsN_more h r, holdsA_more h r, holdsO_more h r]
theorem holdsN_more {E E' : Env} (h : moreF E E') : ∀ (l : List Dat), holdsN E' l = holdsN E l
  | [] => by rw [holdsN, holdsN]
  | [x] => by
    have e := holdsD_more h x
    rw [holdsN, holdsN, e]
  | x :: y :: r => by
    rw [holdsN, holdsN]
theorem holdsA_more {E E' : Env} (h : moreF E E') : ∀ (l : List Dat), holdsA E' l = holdsA E l
  | [] => by rw [holdsA, holdsA]
  | x :: r => by
    rw [holdsA, holdsA, holdsD_more h x, holdsA_more h r]
theorem holdsO_more {E E' : Env} (h : moreF E E') : ∀ (l : List Dat), holdsO E' l = holdsO E l
  | [] => by rw [holdsO, holdsO]
  | x :: r => by
    rw [holdsO, holdsO, holdsD_more h x, holdsO_more h r]
end
theorem clause_more {E E' : Env} (h : moreF E E') (d : Dat) : clauseF E' d = clauseF E d := by
  unfold clauseF
  rw [holdsD_more h]
/-- The same, or nothing is there. -/
def Sm {α : Type} (x x' : Er α) : Prop := x = .no 6 ∨ x' = x
theorem Sm.rfl' {α : Type} (x : Er α) : Sm x x := Or.inr rfl
theorem Sm.bind {α β : Type} {x x' : Er α} {f f' : α → Er β} (h : Sm x x') (hf : ∀ a, Sm (f a) (f' a)) : Sm (x.bind f) (x'.bind f') := by
  rcases h with h | h
  · rw [h]; exact Or.inl rfl
  · rw [h]
    cases x with
    | no e => exact Or.inr rfl
    | ok a => exact hf a
theorem include_more {E E' : Env} (h : moreF E E') : ∀ (l : List Dat) (s : LibS), Sm (includeF E l s) (includeF E' l s)
  | [], s => by rw [includeF, includeF]; exact Sm.rfl' _
  | d :: r, s => by
    rw [includeF, includeF]
    refine Sm.bind (Sm.rfl' _) (fun n => ?_)
    rw [h.2.2]
    exact Or.inl rfl
mutual
theorem declD_more {E E' : Env} (h : moreF E E') : ∀ (d : Dat) (s : LibS), Sm (declD E d s) (declD E' d s)
  | ⟨k, n, nm, st, lb, ks⟩, s => by
    rw [declD, declD]
    by_cases hk : k = 4
    · rw [if_pos hk, if_pos hk]; exact declK_more h ks s
    · rw [if_neg hk, if_neg hk]; exact Sm.rfl' _
theorem declK_more {E E' : Env} (h : moreF E E') : ∀ (l : List Dat) (s : LibS), Sm (declK E l s) (declK E' l s)
  | [], s => by rw [declK, declK]; exact Sm.rfl' _
  | x :: r, s => by
    rw [declK, declK]
    have h1 := include_more h r s
    have h2 := declC_more h r s
    by_cases c0 : x.kind = 3
    · rw [if_pos c0, if_pos c0]
      by_cases c1 : x.name = bExport
      · rw [if_pos c1, if_pos c1]; exact Sm.rfl' _
      rw [if_neg c1, if_neg c1]
      by_cases c2 : x.name = bImport
      · rw [if_pos c2, if_pos c2]; exact Sm.rfl' _
      rw [if_neg c2, if_neg c2]
      by_cases c3 : x.name = bBegin
      · rw [if_pos c3, if_pos c3]; exact Sm.rfl' _
      rw [if_neg c3, if_neg c3]
      by_cases c4 : x.name = bInclude
      · rw [if_pos c4, if_pos c4]; exact h1
      rw [if_neg c4, if_neg c4]
      by_cases c5 : x.name = bCond
      · rw [if_pos c5, if_pos c5]; exact h2
      rw [if_neg c5, if_neg c5]; exact Sm.rfl' _
    · rw [if_neg c0, if_neg c0]; exact Sm.rfl' _
theorem declL_more {E E' : Env} (h : moreF E E') : ∀ (l : List Dat) (s : LibS), Sm (declL E l s) (declL E' l s)
  | [], s => by rw [declL, declL]; exact Sm.rfl' _
  | d :: r, s => by
    rw [declL, declL]
    exact Sm.bind (declD_more h d s) (fun s' => declL_more h r s')
theorem declC_more {E E' : Env} (h : moreF E E') : ∀ (l : List Dat) (s : LibS), Sm (declC E l s) (declC E' l s)
  | [], s => by rw [declC, declC]; exact Sm.rfl' _
  | c :: r, s => by
    rw [declC, declC]
    exact declB_more h c _ _ (fun s' => declC_more h r s') s
theorem declB_more {E E' : Env} (h : moreF E E') : ∀ (d : Dat) (k k' : LibS → Er LibS) (hk : ∀ s, Sm (k s) (k' s)) (s : LibS), Sm (declB E d k s) (declB E' d k' s)
  | ⟨k0, n, nm, st, lb, ks⟩, k, k', hk, s => by
    rw [declB, declB]
    by_cases h4 : k0 = 4
    · rw [if_pos h4, if_pos h4]; exact declT_more h ks k k' hk s
    · rw [if_neg h4, if_neg h4]; exact Sm.rfl' _
theorem declT_more {E E' : Env} (h : moreF E E') : ∀ (l : List Dat) (k k' : LibS → Er LibS) (hk : ∀ s, Sm (k s) (k' s)) (s : LibS), Sm (declT E l k s) (declT E' l k' s)
  | [], k, k', hk, s => by rw [declT, declT]; exact Sm.rfl' _
  | x :: t, k, k', hk, s => by
    rw [declT, declT, clause_more h]
    have h1 := declL_more h t s
    refine Sm.bind (Sm.rfl' _) (fun b => ?_)
    cases b with
    | true => exact h1
    | false => exact hk s
end
/-- Data that nothing stands in but what their kinds have. -/
def bareIs (l : List Dat) : Prop := bareQL l = l
/-- A head, and one declaration behind it. -/
theorem head_chk (f : Nat) (X Y : Dat) (hXY : ∀ n, (chk f X n).1 = 4 ∨ (chk f Y n).1 = 4 ∨ (chk f X n).1 = (chk f Y n).1) (l : List Dat) (n : Nat) :
    (chkL (chk f) (l ++ [X]) n).1 = 4 ∨ (chkL (chk f) (l ++ [Y]) n).1 = 4 ∨ (chkL (chk f) (l ++ [X]) n).1 = (chkL (chk f) (l ++ [Y]) n).1 := by
  have one : ∀ x : Int × Nat, (if x.1 = 0 then chkL (chk f) [] x.2 else x).1 = x.1 := fun x => by
    by_cases e : x.1 = 0
    · rw [if_pos e, e]; rfl
    · rw [if_neg e]
  rw [chkL_append, chkL_append]
  by_cases h : (chkL (chk f) l n).1 = 0
  · rw [if_pos h, if_pos h, chkL_cons, chkL_cons, one, one]
    exact hXY _
  · rw [if_neg h, if_neg h]; exact Or.inr (Or.inr rfl)
/-- Data that are right are right with so much ahead, or it is too much. -/
theorem right_ahead (f : Nat) (l : List Dat) (n k : Nat) (h : (chkL (chk f) l n).1 = 0) : (chkL (chk f) l (n + k)).1 = 4 ∨ (chkL (chk f) l (n + k)).1 = 0 := by
  by_cases h4 : (chkL (chk f) l (n + k)).1 = 4
  · exact Or.inl h4
  · refine Or.inr ?_
    rw [chkL_shift _ (chk_shift f) l n k (by rw [h]; decide) h4, h]
theorem chkL_grow (g : Dat → Nat → Int × Nat) (hg : ∀ d n, n + 1 ≤ (g d n).2) : ∀ (l : List Dat) (n : Nat), n ≤ (chkL g l n).2
  | [], n => Nat.le_refl _
  | d :: r, n => by
    rw [chkL_cons]
    have := hg d n
    by_cases h : (g d n).1 = 0
    · rw [if_pos h]
      have := chkL_grow g hg r (g d n).2
      omega
    · rw [if_neg h]; omega
theorem chk_grow : ∀ (f : Nat) (d : Dat) (n : Nat), n + 1 ≤ (chk f d n).2
  | 0, d, n => Nat.le_refl _
  | f + 1, d, n => by
    unfold chk
    split
    · exact Nat.le_refl _
    · split
      · split
        · exact chkL_grow _ (chk_grow f) _ _
        · exact Nat.le_refl _
      · exact Nat.le_refl _
/-- What is included, and what it might stand for: neither is wrong, if it is not too much. -/
theorem inc_chk (f : Nat) {nm w1 w2 : ByteArray} (hn : namedB nm = true) (h1 : namedB w1 = true) (h2 : namedB w2 = true) (ks : List Dat) (m : Nat) (hk : (chkL (chk (f + 1)) ks m).1 = 0) (n : Nat) (hm : m ≤ n + 2) :
    (chk (f + 2) (liD [syD w1, syD nm]) n).1 = 4 ∨ (chk (f + 2) (liD (syD w2 :: ks)) n).1 = 4 ∨ (chk (f + 2) (liD [syD w1, syD nm]) n).1 = (chk (f + 2) (liD (syD w2 :: ks)) n).1 := by
  rw [chk_word f h1, chk_word f h2]
  by_cases c : 2000 < n + 2
  · rw [if_pos c]; exact Or.inl rfl
  rw [if_neg c, if_neg c, chkL_cons, chk_sy f hn]
  by_cases c2 : 2000 < n + 2 + 1
  · rw [if_pos c2, if_neg (show ¬ ((4 : Int) = 0) by decide)]; exact Or.inl rfl
  rw [if_neg c2, if_pos rfl]
  have e : n + 2 = m + (n + 2 - m) := by omega
  rw [e]
  rcases right_ahead (f + 1) ks m (n + 2 - m) hk with h | h
  · exact Or.inr (Or.inl h)
  · exact Or.inr (Or.inr (by rw [h]; rfl))
theorem addF_ok (E : Env) (ks : List Dat) (s : LibS) (hb : bareIs ks) : declL E [liD (syD bBegin :: ks)] s = addF ks s := by
  rw [declL_one, declD_li, declK]
  show addF (bareQL ks) s = _
  rw [show bareQL ks = ks from hb]
theorem inc_ok {E : Env} {nm t : ByteArray} {ks : List Dat} (hf : E.files = [(nm, t)]) (hr : readL t.data.toList = .inr ks) (s : LibS) : declL E [liD [syD bInclude, syD nm]] s = addF ks s := by
  rw [declL_one, declD_li, declK]
  show includeF E [syD nm] s = _
  rw [includeF, hf]
  show (match fileF nm [(nm, t)] with | none => Er.no 6 | some t => match readL t.data.toList with | .inl x => .no x.1 | .inr ds => (addF ds s).bind fun s' => includeF E [] s') = _
  rw [show fileF nm [(nm, t)] = some t from if_pos rfl]
  show (match readL t.data.toList with | .inl x => Er.no x.1 | .inr ds => (addF ds s).bind fun s' => includeF E [] s') = _
  rw [hr]
  show (addF ks s).bind _ = _
  rw [show (fun s' => includeF E [] s') = fun s' => Er.ok s' from funext fun s' => by rw [includeF], Er.bind_ok]
/-- LIBFILES, plainly. -/
theorem files_plain {E E' : Env} (h : moreF E E') {nm t x : ByteArray} (hf : E'.files = [(nm, t)]) {ks : List Dat} (hr : readL t.data.toList = .inr ks) (hb : bareIs ks) (hn : namedB nm = true) (hx : namedB x = true) (hw : (wrong [liD [syD x, liD (syD bBegin :: ks)]]).1 = 0)
    (hd : List Dat) (h0 : hd ≠ []) (h2 : 2 ≤ hd.length ∨ ∃ y, hd = [y] ∧ y.name = bProgram) :
    parseF E (liD (hd ++ [liD (syD bBegin :: ks)])) = .no 6 ∨ parseF E (liD (hd ++ [liD (syD bBegin :: ks)])) = .no 4 ∨ parseF E' (liD (hd ++ [liD [syD bInclude, syD nm]])) = .no 4 ∨ parseF E' (liD (hd ++ [liD [syD bInclude, syD nm]])) = parseF E (liD (hd ++ [liD (syD bBegin :: ks)])) := by
  have hk : (chkL (chk 38) ks 4).1 = 0 := by
    have e1 : chk 39 (syD x) 1 = (0, 2) := by rw [chk_sy 38 hx]; rfl
    have e2 : chk 39 (liD (syD bBegin :: ks)) 2 = chkL (chk 38) ks 4 := by rw [chk_word 37 (by decide), if_neg (by decide)]
    rw [wrong_one, chk_li, if_neg (by decide), chkL_cons, e1, if_pos rfl, chkL_cons, e2] at hw
    by_cases e : (chkL (chk 38) ks 4).1 = 0
    · exact e
    · rw [if_neg e] at hw; exact hw
  have hall : Sm (allF E (liD (hd ++ [liD (syD bBegin :: ks)]))) (allF E' (liD (hd ++ [liD [syD bInclude, syD nm]]))) := by
    obtain ⟨y, r, rfl⟩ := List.exists_cons_of_ne_nil h0
    have e : ∀ X, formF (liD (y :: r ++ [X])) = (nameF y).bind fun n => .ok (n, r ++ [X]) := fun X => rfl
    have ld : ∀ (l : List Dat) (s : LibS), Sm (declL E (l ++ [liD (syD bBegin :: ks)]) s) (declL E' (l ++ [liD [syD bInclude, syD nm]]) s) := fun l s => by
      rw [declL_append, declL_append]
      refine Sm.bind (declL_more h l s) (fun a => ?_)
      rw [inc_ok hf hr, addF_ok E ks a hb]
      exact Sm.rfl' _
    unfold allF
    rw [e, e]
    unfold nameF
    by_cases h3 : y.kind = 3
    · rw [if_pos h3]
      show Sm (if y.name = bLibrary then (match r ++ [liD (syD bBegin :: ks)] with | [] => .no 2 | x :: r => (calledF x).bind fun n => declL E r { lib0 with name := n }) else (if y.name = bProgram then declL E (r ++ [liD (syD bBegin :: ks)]) lib0 else .no 2)) (if y.name = bLibrary then (match r ++ [liD [syD bInclude, syD nm]] with | [] => .no 2 | x :: r => (calledF x).bind fun n => declL E' r { lib0 with name := n }) else (if y.name = bProgram then declL E' (r ++ [liD [syD bInclude, syD nm]]) lib0 else .no 2))
      by_cases c1 : y.name = bLibrary
      · rw [if_pos c1, if_pos c1]
        cases r with
        | nil =>
          rcases h2 with h2 | ⟨z, hz, hz2⟩
          · simp at h2
          · cases hz
            rw [c1] at hz2
            exact absurd hz2 (by decide)
        | cons z q =>
          show Sm ((calledF z).bind fun n => declL E (q ++ [liD (syD bBegin :: ks)]) { lib0 with name := n }) ((calledF z).bind fun n => declL E' (q ++ [liD [syD bInclude, syD nm]]) { lib0 with name := n })
          exact Sm.bind (Sm.rfl' _) (fun n => ld q _)
      · rw [if_neg c1, if_neg c1]
        by_cases c2 : y.name = bProgram
        · rw [if_pos c2, if_pos c2]; exact ld r _
        · rw [if_neg c2, if_neg c2]; exact Sm.rfl' _
    · rw [if_neg h3]; exact Sm.rfl' _
  have hch : (wrong [liD (hd ++ [liD [syD bInclude, syD nm]])]).1 = 4 ∨ (wrong [liD (hd ++ [liD (syD bBegin :: ks)])]).1 = 4 ∨ (wrong [liD (hd ++ [liD [syD bInclude, syD nm]])]).1 = (wrong [liD (hd ++ [liD (syD bBegin :: ks)])]).1 := by
    rw [wrong_one, wrong_one, chk_li, chk_li, if_neg (by decide), if_neg (by decide)]
    obtain ⟨y, r, rfl⟩ := List.exists_cons_of_ne_nil h0
    rw [List.cons_append, List.cons_append, chkL_cons, chkL_cons]
    by_cases hy : (chk 39 y (0 + 1)).1 = 0
    · rw [if_pos hy, if_pos hy]
      have one : ∀ x : Int × Nat, (if x.1 = 0 then chkL (chk 39) [] x.2 else x).1 = x.1 := fun x => by
        by_cases e : x.1 = 0
        · rw [if_pos e, e]; rfl
        · rw [if_neg e]
      rw [chkL_append, chkL_append]
      by_cases hq : (chkL (chk 39) r (chk 39 y (0 + 1)).2).1 = 0
      · rw [if_pos hq, if_pos hq, chkL_cons, chkL_cons, one, one]
        refine inc_chk 37 hn (by decide) (by decide) ks 4 hk _ ?_
        have m1 := chk_grow 39 y (0 + 1)
        have m2 := chkL_grow (chk 39) (fun d n => chk_grow 39 d n) r (chk 39 y (0 + 1)).2
        omega
      · rw [if_neg hq, if_neg hq]; exact Or.inr (Or.inr rfl)
    · rw [if_neg hy, if_neg hy]; exact Or.inr (Or.inr rfl)
  unfold parseF
  rcases hch with e | e | e
  · refine Or.inr (Or.inr (Or.inl ?_))
    rw [e, if_neg (by decide)]
  · refine Or.inr (Or.inl ?_)
    rw [e, if_neg (by decide)]
  · rw [e, hf, h.2.2]
    by_cases c : (wrong [liD (hd ++ [liD (syD bBegin :: ks)])]).1 = 0
    · rw [if_pos c, if_pos c]
      rcases hall with h | h
      · exact Or.inl h
      · exact Or.inr (Or.inr (Or.inr h))
    · rw [if_neg c, if_neg c]
      exact Or.inr (Or.inr (Or.inr rfl))
end
end Go.Proofs.YtonafbennobgdaaGreatDoor
