/- Chapter 3, plainly: how libraries are shown; WHAT IS SHOWN IS PARSED. Chapter 3, plainly: WHAT IS SHOWN IS PARSED. Chapter 3, plainly: WHAT IS PARSED MAY BE SHOWN. -/
import Derived.Lib.SplitLaws
import Derived.Test.YtonafbennobgdaaGreatDoorK02
namespace Go.Proofs.YtonafbennobgdaaGreatDoor
set_option linter.unusedVariables false
set_option linter.unusedSimpArgs false
section

def piecesB (s : ByteArray) : List ByteArray := Lib.splitB ⟨#[32]⟩ 0 (Lib.countB s ⟨#[32]⟩) s
def callD (s : ByteArray) : Dat := liD ((piecesB s).map syD)
def expD (e : ByteArray × ByteArray) : Dat := if e.1 = e.2 then syD e.1 else liD [syD bRename, syD e.2, syD e.1]
def renD : List ByteArray → List ByteArray → List Dat
 | n :: ns, a :: as_ => liD [syD n, syD a] :: renD ns as_
 | _, _ => []
def restD (k : Int) (ns as_ : List ByteArray) (p : ByteArray) : List Dat :=
 if k = 2 ∨ k = 3 then ns.map syD else if k = 4 then [syD p] else if k = 5 then renD ns as_ else []
mutual
def setD : Se → Dat
 | .mk k nm ns as_ p ks => if k = 1 then callD nm else liD (syD (setWordsB.getD k.toNat ⟨#[]⟩) :: (setDL ks ++ restD k ns as_ p))
def setDL : List Se → List Dat
 | [] => []
 | s :: r => setD s :: setDL r
end
def showD (s : LibS) : Dat :=
 if s.name = ⟨#[]⟩ then liD [syD bProgram, liD (syD bImport :: setDL s.imports), liD (syD bBegin :: bareQL s.body)]
 else liD [syD bLibrary, callD s.name, liD (syD bExport :: s.exports.map expD), liD (syD bImport :: setDL s.imports), liD (syD bBegin :: bareQL s.body)]

/-! What is right. -/
theorem chkL_mono (g g' : Dat → Nat → Int × Nat) (hg : ∀ d n n', n' ≤ n → (g d n).1 = 0 → (g' d n').1 = 0 ∧ (g' d n').2 ≤ (g d n).2) : ∀ (l : List Dat) (n n' : Nat), n' ≤ n → (chkL g l n).1 = 0 → (chkL g' l n').1 = 0 ∧ (chkL g' l n').2 ≤ (chkL g l n).2
 | [], n, n', h, _ => ⟨rfl, h⟩
 | d :: r, n, n', h, h0 => by
  unfold chkL at h0 ⊢
  by_cases e : (g d n).1 = 0
  ·rw [if_pos e] at h0
   have := hg d n n' h e
   rw [if_pos this.1, if_pos e]
   exact chkL_mono g g' hg r _ _ this.2 h0
  ·rw [if_neg e] at h0
   exact absurd h0 e
theorem chk_mono : ∀ (f f' : Nat) (d : Dat) (n n' : Nat), f ≤ f' → n' ≤ n → (chk f d n).1 = 0 → (chk f' d n').1 = 0 ∧ (chk f' d n').2 ≤ (chk f d n).2
 | 0, f', d, n, n', _, _, h => by simp [chk] at h
 | f + 1, 0, d, n, n', h, _, _ => absurd h (by omega)
 | f + 1, f' + 1, d, n, n', h, hn, h0 => by
  unfold chk at h0 ⊢
  by_cases a : 2000 < n + 1
  ·rw [if_pos a] at h0; simp at h0
  ·have a' : ¬ 2000 < n' + 1 := by omega
   rw [if_neg a] at h0
   rw [if_neg a', if_neg a]
   by_cases b : alone d = 0
   ·rw [if_pos b] at h0
    rw [if_pos b, if_pos b]
    by_cases c : d.kind = 4
    ·rw [if_pos c] at h0
     rw [if_pos c, if_pos c]
     exact chkL_mono (chk f) (chk f') (fun d n n' hn h => chk_mono f f' d n n' (by omega) hn h) _ _ _ (by omega) h0
    ·rw [if_neg c, if_neg c]
     exact ⟨rfl, by simp; omega⟩
   ·rw [if_neg b] at h0
    exact absurd h0 b
theorem chkL_mem {g : Dat → Nat → Int × Nat} : ∀ {l : List Dat} {n : Nat}, (chkL g l n).1 = 0 → ∀ d ∈ l, ∃ m, (g d m).1 = 0
 | [], n, h, d, hd => by simp at hd
 | x :: r, n, h, d, hd => by
  unfold chkL at h
  by_cases e : (g x n).1 = 0
  ·rw [if_pos e] at h
   rcases List.mem_cons.1 hd with rfl | hd
   ·exact ⟨n, e⟩
   ·exact chkL_mem h d hd
  ·rw [if_neg e] at h
   exact absurd h e
def RgD (d : Dat) : Prop := ∃ f n, f ≤ 40 ∧ (chk f d n).1 = 0
def RgL (l : List Dat) : Prop := ∀ d ∈ l, RgD d
theorem RgD.wrong {d : Dat} (h : RgD d) : (wrong [d]).1 = 0 := by
 obtain ⟨f, n, hf, h⟩ := h
 rw [wrong_one]
 exact (chk_mono f 40 d n 0 hf (Nat.zero_le _) h).1
theorem RgD.of {d : Dat} (h : (Go.Proofs.YtonafbennobgdaaGreatDoor.wrong [d]).1 = 0) : RgD d := ⟨40, 0, Nat.le_refl _, by rw [wrong_one] at h; exact h⟩
theorem RgD.alone {d : Dat} (h : RgD d) : alone d = 0 := by
 obtain ⟨f, n, hf, h⟩ := h
 cases f with
 | zero => simp [chk] at h
 | succ f =>
  unfold chk at h
  split at h
  ·simp at h
  ·split at h
   ·assumption
   ·exact h
theorem RgD.kids {d : Dat} (h : RgD d) (hk : d.kind = 4) : RgL d.kids := by
 have ha := h.alone
 obtain ⟨f, n, hf, h⟩ := h
 cases f with
 | zero => simp [chk] at h
 | succ f =>
  unfold chk at h
  by_cases a : 2000 < n + 1
  ·rw [if_pos a] at h; simp at h
  ·rw [if_neg a, if_pos ha, if_pos hk] at h
   intro x hx
   obtain ⟨m, hm⟩ := chkL_mem h x hx
   exact ⟨f, m, by omega, hm⟩
theorem RgD.named {d : Dat} (h : RgD d) (hk : d.kind = 3) : namedB d.name = true := by
 have ha := h.alone
 rw [alone_symR hk] at ha
 unfold symErrR at ha
 split at ha
 ·assumption
 ·cases ha
theorem named_ne {s : ByteArray} (h : namedB s = true) : s ≠ ⟨#[]⟩ := by
 rintro rfl
 exact absurd h (by decide)
mutual
theorem chk_bare : ∀ (d : Dat) (f n : Nat), (chk f d n).1 = 0 → chk f (bareQ d) n = chk f d n
 | ⟨k, x, nm, st, lb, ks⟩, 0, n, h => by simp [chk] at h
 | ⟨k, x, nm, st, lb, ks⟩, f + 1, n, h => by
  have hL := chkL_bare ks f (n + 1)
  unfold chk at h ⊢
  by_cases a : 2000 < n + 1
  ·rw [if_pos a, if_pos a]
  ·rw [if_neg a] at h
   rw [if_neg a, if_neg a]
   by_cases b : alone ⟨k, x, nm, st, lb, ks⟩ = 0
   ·rw [if_pos b] at h
    have b' : alone (bareQ ⟨k, x, nm, st, lb, ks⟩) = 0 := by
     rw [bareQ]
     unfold alone at b ⊢
     simp only at b ⊢
     by_cases k1 : k = 1
     ·simp [k1] at b ⊢; exact b
     by_cases k2 : k = 2
     ·simp [k2] at b ⊢; exact b
     by_cases k3 : k = 3
     ·simp [k3] at b ⊢
      by_cases q : namedB nm = true
      ·simp [q]
      ·simp [q] at b
     by_cases k4 : k = 4
     ·simp [k4]
     ·simp [k1, k2, k3, k4] at b
    rw [if_pos b, if_pos b']
    by_cases c : k = 4
    ·rw [if_pos c] at h
     rw [if_pos (show (⟨k, x, nm, st, lb, ks⟩ : Dat).kind = 4 from c), if_pos (show (bareQ ⟨k, x, nm, st, lb, ks⟩).kind = 4 by rw [bareQ]; exact c)]
     have : (bareQ ⟨k, x, nm, st, lb, ks⟩).kids = bareQL ks := by rw [bareQ]; simp [c]
     rw [this]
     exact hL h
    ·rw [if_neg (show ¬ (⟨k, x, nm, st, lb, ks⟩ : Dat).kind = 4 from c), if_neg (show ¬ (bareQ ⟨k, x, nm, st, lb, ks⟩).kind = 4 by rw [bareQ]; exact c)]
   ·rw [if_neg b] at h
    exact absurd h b
theorem chkL_bare : ∀ (l : List Dat) (f n : Nat), (chkL (chk f) l n).1 = 0 → chkL (chk f) (bareQL l) n = chkL (chk f) l n
 | [], f, n, h => by rw [bareQL]
 | d :: r, f, n, h => by
  rw [bareQL]
  rw [chkL_cons] at h
  rw [chkL_cons, chkL_cons]
  by_cases e : (chk f d n).1 = 0
  ·rw [if_pos e] at h
   rw [chk_bare d f n e, if_pos e, if_pos e]
   exact chkL_bare r f _ h
  ·rw [if_neg e] at h
   exact absurd h e
end
theorem RgD.bare {d : Dat} (h : RgD d) : RgD (bareQ d) := by
 obtain ⟨f, n, hf, h⟩ := h
 exact ⟨f, n, hf, by rw [chk_bare d f n h]; exact h⟩
theorem mem_bare : ∀ {l : List Dat} {d : Dat}, d ∈ bareQL l → ∃ e ∈ l, d = bareQ e
 | [], d, h => by rw [bareQL] at h; simp at h
 | x :: r, d, h => by
  rw [bareQL] at h
  rcases List.mem_cons.1 h with rfl | h
  ·exact ⟨x, by simp, rfl⟩
  ·obtain ⟨e, he, rfl⟩ := mem_bare h
   exact ⟨e, by simp [he], rfl⟩
theorem RgL.bare {l : List Dat} (h : RgL l) : RgL (bareQL l) := fun d hd => by
 obtain ⟨e, he, rfl⟩ := mem_bare hd
 exact (h e he).bare
mutual
theorem bare_bare : ∀ (d : Dat), bareQ (bareQ d) = bareQ d
 | ⟨k, x, nm, st, lb, ks⟩ => by
  have := bareL_bare ks
  rw [bareQ, bareQ]
  by_cases k4 : k = 4
  ·simp [k4, this]
  ·by_cases k12 : k = 1 ∨ k = 2
   ·simp [k4, k12]
    intro h1 h2
    exact absurd h2 h1
   ·by_cases k3 : k = 3
    ·simp [k3]
    ·simp [k4, k12, k3]
theorem bareL_bare : ∀ (l : List Dat), bareQL (bareQL l) = bareQL l
 | [] => by rw [bareQL, bareQL]
 | d :: r => by rw [bareQL, bareQL, bare_bare d, bareL_bare r]
end
theorem wrongFrom_mem : ∀ (l : List Dat) (i n : Nat), (wrongFrom l i n).1 = 0 → ∀ d ∈ l, ∃ m, (chk 40 d m).1 = 0
 | [], i, n, h, d, hd => by simp at hd
 | x :: r, i, n, h, d, hd => by
  unfold wrongFrom at h
  split at h
  ·rename_i e
   rcases List.mem_cons.1 hd with rfl | hd
   ·exact ⟨n, e⟩
   ·exact wrongFrom_mem r _ _ h d hd
  ·rename_i e
   exact absurd h e
theorem read_rg {l : List UInt8} {ds : List Dat} (h : readL l = .inr ds) : RgL ds := fun d hd => by
 obtain ⟨m, hm⟩ := wrongFrom_mem ds 0 0 (by have := read_right h; unfold Go.Proofs.YtonafbennobgdaaGreatDoor.wrong at this; rw [this]) d hd
 exact ⟨40, m, Nat.le_refl _, hm⟩
end
section

theorem index_cut (c : UInt8) : ∀ (l : List UInt8) (i : Nat), Lib.index l [c] = (i : Int) → l = l.take i ++ c :: l.drop (i + 1)
 | [], i, h => by simp [Lib.index] at h
 | b :: l, i, h => by
  unfold Lib.index at h
  by_cases e : c = b
  ·subst e
   simp [List.isPrefixOf] at h
   obtain rfl : i = 0 := by omega
   simp
  ·have hp : ([c] : List UInt8).isPrefixOf (b :: l) = false := by simp [List.isPrefixOf, e]
   rw [hp] at h
   simp only [Bool.false_eq_true, if_false] at h
   by_cases hm : Lib.index l [c] = -1
   ·rw [if_pos (by simp [hm])] at h
    omega
   ·rw [if_neg (by simp [hm])] at h
    have hge := Lib.index_ge l [c]
    obtain ⟨j, hj⟩ : ∃ j : Nat, Lib.index l [c] = j := ⟨(Lib.index l [c]).toNat, by omega⟩
    obtain rfl : i = j + 1 := by omega
    have := index_cut c l j hj
    simp only [List.take_succ_cons, List.drop_succ_cons, List.cons_append]
    rw [← this]
theorem split_ne (sep : ByteArray) (sv k : Nat) (s : ByteArray) : Lib.splitB sep sv k s ≠ [] := by
 cases k with
 | zero => rw [Lib.splitB_zero]; simp
 | succ k =>
  unfold Lib.splitB
  split <;> simp
theorem join_split : ∀ (k : Nat) (s : ByteArray), joinL (Lib.splitB ⟨#[32]⟩ 0 k s) = s.data.toList
 | 0, s => by rw [Lib.splitB_zero, joinL]
 | k + 1, s => by
  rcases Lib.indexB_cases s ⟨#[32]⟩ with h | ⟨i, h, hr⟩
  ·rw [Lib.splitB_miss _ _ _ _ h, joinL]
  ·rw [Lib.splitB_hit _ _ _ _ i h]
   have hn := split_ne ⟨#[32]⟩ 0 k (s.extract (i + (⟨#[32]⟩ : ByteArray).size) s.size)
   have ih := join_split k (s.extract (i + (⟨#[32]⟩ : ByteArray).size) s.size)
   cases hx : Lib.splitB ⟨#[32]⟩ 0 k (s.extract (i + (⟨#[32]⟩ : ByteArray).size) s.size) with
   | nil => exact absurd hx hn
   | cons y r =>
    rw [hx] at ih
    rw [joinL, ih, Lib.extract_from_zero]
    have hc := index_cut 32 s.data.toList i h
    have he : (s.extract (i + (⟨#[32]⟩ : ByteArray).size) s.size).data.toList = s.data.toList.drop (i + 1) := by
     have : (⟨#[32]⟩ : ByteArray).size = 1 := rfl
     rw [this, Lib.extract_to_end]
    rw [he, Nat.add_zero]
    exact hc.symm
theorem join_pieces (s : ByteArray) : joinB (piecesB s) = s := by
 unfold joinB piecesB
 rw [join_split]
theorem pieces_ne (s : ByteArray) : piecesB s ≠ [] := split_ne _ _ _ _
theorem names_sy : ∀ (l : List ByteArray), namesF (l.map syD) = .ok l
 | [] => by rw [List.map_nil, namesF]
 | x :: r => by
  rw [List.map_cons, namesF, names_sy r]
  rfl
theorem called_call {s : ByteArray} (h : s.size ≤ 60) : calledF (callD s) = .ok s := by
 unfold calledF thingsF callD
 have : (liD ((piecesB s).map syD)).kids ≠ [] := by
  show (piecesB s).map syD ≠ []
  simp [pieces_ne]
 rw [if_pos ⟨rfl, this⟩]
 show (namesF ((piecesB s).map syD)).bind _ = _
 rw [names_sy]
 show (if (joinB (piecesB s)).size ≤ 60 then Er.ok (joinB (piecesB s)) else .no 4) = _
 rw [join_pieces, if_pos h]
theorem called_size {d : Dat} {s : ByteArray} (h : calledF d = .ok s) : s.size ≤ 60 := by
 unfold calledF at h
 cases ht : thingsF d with
 | no x => rw [ht] at h; cases h
 | ok l =>
  rw [ht] at h
  simp only [Er.bind] at h
  cases hn : namesF l with
  | no x => rw [hn] at h; cases h
  | ok ns =>
   rw [hn] at h
   simp only at h
   split at h
   ·rename_i hs
    cases h
    exact hs
   ·cases h
def ShowSe : Nat → Se → Prop
 | 0, _ => False
 | n + 1, .mk k nm ns as_ p ks => (k = 1 ∧ nm.size ≤ 60 ∧ ns = [] ∧ as_ = [] ∧ p = ⟨#[]⟩ ∧ ks = []) ∨
  (nm = ⟨#[]⟩ ∧ (∃ x, ks = [x] ∧ ShowSe n x) ∧ ((∀ x ∈ ns, x.size ≤ 60) ∧ (∀ x ∈ as_, x.size ≤ 60) ∧ p.size ≤ 60) ∧ ((k = 2 ∨ k = 3) ∧ as_ = [] ∧ p = ⟨#[]⟩ ∨ k = 4 ∧ ns = [] ∧ as_ = [] ∨ k = 5 ∧ ns.length = as_.length ∧ p = ⟨#[]⟩))
theorem renames_ren : ∀ (ns as_ : List ByteArray), ns.length = as_.length → renamesF (renD ns as_) = .ok (ns, as_)
 | [], [], _ => by rw [renD, renamesF] <;> simp
 | [], a :: r, h => by simp at h
 | n :: r, [], h => by simp at h
 | n :: r, a :: s, h => by
  rw [renD, renamesF, renames_ren r s (by simpa using h)]
  rfl
theorem set_list (s : Se) : (setD s).kind = 4 := by
 cases s with
 | mk k nm ns as_ p ks =>
  rw [setD]
  split <;> rfl
theorem kind_syms (l : List ByteArray) : kindF (l.map syD) = 1 := by
 cases l with
 | nil => rfl
 | cons x r =>
  cases r with
  | nil => rfl
  | cons y r =>
   show (if (syD x).kind = 3 ∧ (syD y).kind = 4 then (match placeB (syD x).name 0 setWordsB with | some i => (i : Int) | none => 1) else (1 : Int)) = 1
   rw [if_neg (fun h => absurd (show (3 : Int) = 4 from h.2) (by decide))]
theorem set_turns : ∀ (n : Nat) (s : Se), ShowSe n s → setF n (setD s) = .ok s
 | 0, s, h => by cases h
 | n + 1, .mk k nm ns as_ p ks, h => by
  rw [ShowSe] at h
  rcases h with ⟨rfl, hn, rfl, rfl, rfl, rfl⟩ | ⟨rfl, ⟨x, rfl, hx⟩, _, h⟩
  ·rw [setD, if_pos rfl, setF]
   have ht : thingsF (callD nm) = .ok ((piecesB nm).map syD) := by
    unfold thingsF callD
    rw [if_pos ⟨rfl, by show (piecesB nm).map syD ≠ []; simp [pieces_ne]⟩]
    rfl
   rw [ht]
   show (if kindF ((piecesB nm).map syD) = 1 then _ else _) = _
   rw [if_pos (kind_syms _), called_call hn]
   rfl
  ·have ih := set_turns n x hx
   have hk1 : k ≠ 1 := by omega
   have hl : setD (.mk k ⟨#[]⟩ ns as_ p [x]) = liD (syD (setWordsB.getD k.toNat ⟨#[]⟩) :: setD x :: restD k ns as_ p) := by
    rw [setD, if_neg hk1, setDL, setDL]
    rfl
   rw [hl, setF]
   have ht : thingsF (liD (syD (setWordsB.getD k.toNat ⟨#[]⟩) :: setD x :: restD k ns as_ p)) = .ok (syD (setWordsB.getD k.toNat ⟨#[]⟩) :: setD x :: restD k ns as_ p) := by
    unfold thingsF
    rw [if_pos ⟨rfl, by show _ :: _ ≠ []; simp⟩]
    rfl
   rw [ht]
   have hkf : kindF (syD (setWordsB.getD k.toNat ⟨#[]⟩) :: setD x :: restD k ns as_ p) = k := by
    show (if (syD (setWordsB.getD k.toNat ⟨#[]⟩)).kind = 3 ∧ (setD x).kind = 4 then (match placeB (setWordsB.getD k.toNat ⟨#[]⟩) 0 setWordsB with | some i => (i : Int) | none => 1) else 1) = k
    rw [if_pos ⟨rfl, set_list x⟩]
    have : k = 2 ∨ k = 3 ∨ k = 4 ∨ k = 5 := by omega
    rcases this with rfl | rfl | rfl | rfl <;> decide
   show (if kindF (syD (setWordsB.getD k.toNat ⟨#[]⟩) :: setD x :: restD k ns as_ p) = 1 then _ else _) = _
   rw [hkf, if_neg hk1]
   show (setF n (setD x)).bind _ = _
   rw [ih]
   show (if k = 2 ∨ k = 3 then (namesF (restD k ns as_ p)).bind _ else if k = 4 then (oneF (restD k ns as_ p)).bind _ else if k = 5 then (renamesF (restD k ns as_ p)).bind _ else _) = _
   unfold restD
   rcases h with ⟨h, rfl, rfl⟩ | ⟨rfl, rfl, rfl⟩ | ⟨rfl, h, rfl⟩
   ·rw [if_pos h, if_pos h, names_sy]
    rfl
   ·rfl
   ·rw [if_neg (by omega), if_neg (by omega), if_pos rfl, if_neg (by omega), if_neg (by omega), if_pos rfl, renames_ren _ _ h]
    rfl
theorem imports_turn : ∀ (l : List Se) (s : LibS), s.imports.length + l.length ≤ 20 → (∀ x ∈ l, ShowSe 12 x) → importsF (setDL l) s = .ok { s with imports := s.imports ++ l }
 | [], s, _, _ => by rw [setDL, importsF, List.append_nil]
 | x :: r, s, hl, hx => by
  rw [setDL, importsF, if_pos (by simp at hl; omega), set_turns 12 x (hx x (by simp))]
  show importsF (setDL r) { s with imports := s.imports ++ [x] } = _
  rw [imports_turn r _ (by simp at hl ⊢; omega) (fun y hy => hx y (by simp [hy]))]
  simp
theorem export_turn (e : ByteArray × ByteArray) : exportF (expD e) = .ok e := by
 obtain ⟨a, b⟩ := e
 unfold expD
 by_cases h : a = b
 ·subst h
  rw [if_pos rfl]
  rfl
 ·rw [if_neg h]
  unfold exportF
  rw [if_neg (by show ¬ (4 : Int) = 3; decide)]
  rfl
def Unl : List (ByteArray × ByteArray) → Prop := List.Pairwise fun x y => x.1 ≠ y.1
theorem exports_turn : ∀ (l : List (ByteArray × ByteArray)) (s : LibS), s.exports.length + l.length ≤ 200 → Unl (s.exports ++ l) → exportsF (l.map expD) s = .ok { s with exports := s.exports ++ l }
 | [], s, _, _ => by rw [List.map_nil, exportsF, List.append_nil]
 | e :: r, s, hl, hu => by
  rw [List.map_cons, exportsF, export_turn]
  show (if (s.exports.any fun x => decide (x.1 = e.1)) = true then _ else if s.exports.length < 200 then _ else _) = _
  have ha : ¬ (s.exports.any fun x => decide (x.1 = e.1)) = true := by
   intro h
   obtain ⟨x, hx, he⟩ := List.any_eq_true.1 h
   exact (List.pairwise_append.1 hu).2.2 x hx e (by simp) (by simpa using he)
  rw [if_neg ha, if_pos (by simp at hl; omega)]
  rw [exports_turn r _ (by simp at hl ⊢; omega) (by simpa using hu)]
  simp
structure GoodL (s : LibS) : Prop where
 nm : s.name.size ≤ 60
 none : s.name = ⟨#[]⟩ → s.exports = []
 exp : s.exports.length ≤ 200
 exs : ∀ e ∈ s.exports, e.1.size ≤ 60 ∧ e.2.size ≤ 60
 unl : Unl s.exports
 imp : s.imports.length ≤ 20
 sets : ∀ x ∈ s.imports, ShowSe 12 x
 bod : s.body.length ≤ 200
 bare : bareQL s.body = s.body
 right : RgL s.body
theorem decl_word (E : Env) (w : ByteArray) (l : List Dat) (s : LibS) : declD E (liD (syD w :: l)) s = declK E (syD w :: l) s := declD_li E _ s
theorem decl_imp (E : Env) (l : List Dat) (s : LibS) : declD E (liD (syD bImport :: l)) s = importsF l s := by rw [decl_word, declK]; rfl
theorem decl_beg (E : Env) (l : List Dat) (s : LibS) : declD E (liD (syD bBegin :: l)) s = addF (bareQL l) s := by rw [decl_word, declK]; rfl
theorem decl_exp (E : Env) (l : List Dat) (s : LibS) (h : s.name ≠ ⟨#[]⟩) : declD E (liD (syD bExport :: l)) s = exportsF l s := by
 rw [decl_word, declK]
 show (if s.name = ⟨#[]⟩ then _ else exportsF l s) = _
 rw [if_neg h]
theorem body_turn (E : Env) {s t : LibS} (hs : GoodL s) (he : t.imports = []) (hb : t.body = []) : declL E [liD (syD bImport :: setDL s.imports), liD (syD bBegin :: bareQL s.body)] t = .ok { t with imports := s.imports, body := s.body } := by
 rw [declL, decl_imp, imports_turn _ _ (by rw [he]; simpa using hs.imp) hs.sets]
 show declL E [liD (syD bBegin :: bareQL s.body)] _ = _
 rw [declL_one, decl_beg, hs.bare, hs.bare]
 unfold addF
 simp only
 rw [hb, if_pos (by simpa using hs.bod), he]
 simp
theorem show_turns {s : LibS} (hs : GoodL s) (E : Env) (hf : E.files.length ≤ 30) (hw : (wrong [showD s]).1 = 0) : parseF E (showD s) = .ok s := by
 unfold parseF
 rw [if_pos hw, if_pos hf]
 unfold showD
 by_cases hn : s.name = ⟨#[]⟩
 ·rw [if_pos hn]
  have := allF_prog E [liD (syD bImport :: setDL s.imports), liD (syD bBegin :: bareQL s.body)]
  unfold progD at this
  rw [this, body_turn E hs rfl rfl]
  have h1 := hs.none hn
  cases s
  simp only at hn h1
  subst hn h1
  rfl
 ·rw [if_neg hn]
  unfold allF
  have e : formF (liD [syD bLibrary, callD s.name, liD (syD bExport :: s.exports.map expD), liD (syD bImport :: setDL s.imports), liD (syD bBegin :: bareQL s.body)]) = .ok (bLibrary, [callD s.name, liD (syD bExport :: s.exports.map expD), liD (syD bImport :: setDL s.imports), liD (syD bBegin :: bareQL s.body)]) := rfl
  rw [e]
  show (calledF (callD s.name)).bind _ = _
  rw [called_call hs.nm]
  show declL E [liD (syD bExport :: s.exports.map expD), liD (syD bImport :: setDL s.imports), liD (syD bBegin :: bareQL s.body)] ⟨s.name, [], [], []⟩ = _
  rw [declL, decl_exp E (s.exports.map expD) ⟨s.name, [], [], []⟩ hn, exports_turn _ _ (by show 0 + _ ≤ _; have := hs.exp; omega) (by show Unl ([] ++ _); exact hs.unl)]
  show declL E [liD (syD bImport :: setDL s.imports), liD (syD bBegin :: bareQL s.body)] _ = _
  rw [body_turn E hs rfl rfl]
  rfl
end
section

theorem rg_things {d : Dat} {l : List Dat} (h : RgD d) (ht : thingsF d = .ok l) : RgL l := by
 unfold thingsF at ht
 split at ht
 ·rename_i hk
  cases ht
  exact h.kids hk.1
 ·cases ht
theorem named_sz {s : ByteArray} (h : namedB s = true) : s.size ≤ 60 := by
 unfold namedB at h
 simp only [Bool.and_eq_true, decide_eq_true_eq] at h
 omega
theorem name_sz {d : Dat} {n : ByteArray} (h : RgD d) (hn : nameF d = .ok n) : n.size ≤ 60 := by
 unfold nameF at hn
 split at hn
 ·rename_i hk
  cases hn
  exact named_sz (h.named hk)
 ·cases hn
theorem names_sz : ∀ {l : List Dat} {ns : List ByteArray}, RgL l → namesF l = .ok ns → ∀ x ∈ ns, x.size ≤ 60
 | [], ns, _, h => by rw [namesF] at h; cases h; simp
 | d :: r, ns, hl, h => by
  rw [namesF] at h
  cases hn : nameF d with
  | no x => rw [hn] at h; cases h
  | ok n =>
   rw [hn] at h
   cases hr : namesF r with
   | no x => simp only [Er.bind, hr] at h; cases h
   | ok l' =>
    simp only [Er.bind, hr] at h
    cases h
    intro x hx
    rcases List.mem_cons.1 hx with rfl | hx
    ·exact name_sz (hl d (by simp)) hn
    ·exact names_sz (fun y hy => hl y (by simp [hy])) hr x hx
theorem just_sz {d : Dat} {n : Nat} {ns : List ByteArray} (h : RgD d) (hn : justF d n = .ok ns) : ∀ x ∈ ns, x.size ≤ 60 := by
 unfold justF at hn
 split at hn
 ·rename_i hk
  exact names_sz (h.kids hk.1) hn
 ·cases hn
theorem getD_sz {ns : List ByteArray} (h : ∀ x ∈ ns, x.size ≤ 60) (i : Nat) : (ns.getD i ⟨#[]⟩).size ≤ 60 := by
 rw [List.getD_eq_getElem?_getD]
 cases hg : ns[i]? with
 | none => exact Nat.zero_le _
 | some y => exact h y (List.mem_of_getElem? hg)
theorem renames_sz : ∀ {l : List Dat} {q : List ByteArray × List ByteArray}, RgL l → renamesF l = .ok q → (∀ x ∈ q.1, x.size ≤ 60) ∧ ∀ x ∈ q.2, x.size ≤ 60
 | [], q, _, h => by rw [renamesF] at h; cases h; simp
 | d :: r, q, hl, h => by
  rw [renamesF] at h
  cases hn : justF d 2 with
  | no x => rw [hn] at h; cases h
  | ok n =>
   rw [hn] at h
   cases hr : renamesF r with
   | no x => simp only [Er.bind, hr] at h; cases h
   | ok l' =>
    simp only [Er.bind, hr] at h
    cases h
    have ih := renames_sz (fun y hy => hl y (by simp [hy])) hr
    have hj := just_sz (hl d (by simp)) hn
    refine ⟨fun x hx => ?_, fun x hx => ?_⟩
    ·rcases List.mem_cons.1 hx with rfl | hx
     ·exact getD_sz hj 0
     ·exact ih.1 x hx
    ·rcases List.mem_cons.1 hx with rfl | hx
     ·exact getD_sz hj 1
     ·exact ih.2 x hx
theorem export_sz {d : Dat} {e : ByteArray × ByteArray} (h : RgD d) (he : exportF d = .ok e) : e.1.size ≤ 60 ∧ e.2.size ≤ 60 := by
 unfold exportF at he
 split at he
 ·rename_i hk
  cases he
  exact ⟨named_sz (h.named hk), named_sz (h.named hk)⟩
 ·cases hj : justF d 3 with
  | no x => rw [hj] at he; cases he
  | ok l =>
   rw [hj] at he
   simp only [Er.bind] at he
   split at he
   ·cases he
    exact ⟨getD_sz (just_sz h hj) 2, getD_sz (just_sz h hj) 1⟩
   ·cases he
theorem rg_drop {l : List Dat} (h : RgL l) (n : Nat) : RgL (l.drop n) := fun x hx => h x (List.mem_of_mem_drop hx)
theorem rg_renames : ∀ {l : List Dat} {q : List ByteArray × List ByteArray}, renamesF l = .ok q → q.1.length = q.2.length
 | [], q, h => by rw [renamesF] at h; cases h; rfl
 | d :: r, q, h => by
  rw [renamesF] at h
  cases hn : justF d 2 with
  | no x => rw [hn] at h; cases h
  | ok n =>
   rw [hn] at h
   cases hr : renamesF r with
   | no x => simp only [Er.bind, hr] at h; cases h
   | ok l' =>
    simp only [Er.bind, hr] at h
    cases h
    simp [rg_renames hr]
theorem place_some {x : ByteArray} (hx : x ≠ ⟨#[]⟩) {i : Nat} (h : placeB x 0 setWordsB = some i) : i = 2 ∨ i = 3 ∨ i = 4 ∨ i = 5 := by
 unfold setWordsB at h
 simp only [placeB] at h
 rw [if_neg (fun e => hx e.symm), if_neg (fun e => hx e.symm)] at h
 split at h
 ·cases h; simp
 ·split at h
  ·cases h; simp
  ·split at h
   ·cases h; simp
   ·split at h
    ·cases h; simp
    ·cases h
theorem kind_ofQ {l : List Dat} (h : RgL l) : kindF l = 1 ∨ kindF l = 2 ∨ kindF l = 3 ∨ kindF l = 4 ∨ kindF l = 5 := by
 match l, h with
 | [], _ => exact Or.inl rfl
 | [x], _ => exact Or.inl rfl
 | x :: y :: r, h =>
  have e : kindF (x :: y :: r) = (if x.kind = 3 ∧ y.kind = 4 then (match placeB x.name 0 setWordsB with | some i => (i : Int) | none => 1) else (1 : Int)) := rfl
  rw [e]
  by_cases hk : x.kind = 3 ∧ y.kind = 4
  ·rw [if_pos hk]
   have hne := named_ne ((h x (by simp)).named hk.1)
   cases hp : placeB x.name 0 setWordsB with
   | none => exact Or.inl rfl
   | some i =>
    rcases place_some hne hp with rfl | rfl | rfl | rfl <;> simp
  ·rw [if_neg hk]
   exact Or.inl rfl
theorem set_shows : ∀ (n : Nat) (d : Dat) (x : Se), RgD d → setF n d = .ok x → ShowSe n x
 | 0, d, x, _, h => by rw [setF] at h; cases h
 | n + 1, d, x, hd, h => by
  rw [setF] at h
  cases ht : thingsF d with
  | no z => rw [ht] at h; cases h
  | ok l =>
   rw [ht] at h
   have hl := rg_things hd ht
   simp only [Er.bind] at h
   have hk := kind_ofQ hl
   split at h
   ·cases hc : calledF d with
    | no z => rw [hc] at h; cases h
    | ok nm =>
     rw [hc] at h
     cases h
     rw [ShowSe]
     exact Or.inl ⟨rfl, called_size hc, rfl, rfl, rfl, rfl⟩
   ·rename_i hk1
    have hod : RgD (l.getD 1 d) := by
     rw [List.getD_eq_getElem?_getD]
     cases hg : l[1]? with
     | none => exact hd
     | some y => exact hl _ (List.mem_of_getElem? hg)
    cases hs : setF n (l.getD 1 d) with
    | no z => rw [hs] at h; cases h
    | ok k =>
     have ih := set_shows n _ k hod hs
     rw [hs] at h
     simp only at h
     split at h
     ·rename_i h23
      cases hn : namesF (l.drop 2) with
      | no z => rw [hn] at h; cases h
      | ok ns =>
       rw [hn] at h
       cases h
       rw [ShowSe]
       exact Or.inr ⟨rfl, ⟨k, rfl, ih⟩, ⟨names_sz (rg_drop hl 2) hn, by simp, Nat.zero_le _⟩, Or.inl ⟨h23, rfl, rfl⟩⟩
     ·split at h
      ·cases hn : oneF (l.drop 2) with
       | no z => rw [hn] at h; cases h
       | ok y =>
        rw [hn] at h
        simp only at h
        cases hm : nameF y with
        | no z => rw [hm] at h; cases h
        | ok p =>
         rw [hm] at h
         cases h
         rw [ShowSe]
         exact Or.inr ⟨rfl, ⟨k, rfl, ih⟩, ⟨by simp, by simp, name_sz (by
          have hy : y ∈ l.drop 2 := by
           match hd : l.drop 2, hn with
           | [z], hn => cases hn; simp
          exact rg_drop hl 2 y hy) hm⟩, Or.inr (Or.inl ⟨rfl, rfl, rfl⟩)⟩
      ·split at h
       ·cases hn : renamesF (l.drop 2) with
        | no z => rw [hn] at h; cases h
        | ok q =>
         rw [hn] at h
         cases h
         rw [ShowSe]
         exact Or.inr ⟨rfl, ⟨k, rfl, ih⟩, ⟨(renames_sz (rg_drop hl 2) hn).1, (renames_sz (rg_drop hl 2) hn).2, Nat.zero_le _⟩, Or.inr (Or.inr ⟨rfl, rg_renames hn, rfl⟩)⟩
       ·exfalso
        omega
theorem exports_good : ∀ (a : List Dat) (s s' : LibS), RgL a → s.name ≠ ⟨#[]⟩ → GoodL s → exportsF a s = .ok s' → GoodL s'
 | [], s, s', _, _, hs, h => by rw [exportsF] at h; cases h; exact hs
 | d :: r, s, s', hra, hn, hs, h => by
  rw [exportsF] at h
  cases he : exportF d with
  | no x => rw [he] at h; cases h
  | ok e =>
   rw [he] at h
   simp only [Er.bind] at h
   split at h
   ·cases h
   ·rename_i ha
    split at h
    ·rename_i hl
     refine exports_good r { s with exports := s.exports ++ [e] } s' (fun y hy => hra y (by simp [hy])) hn ?_ h
     refine ⟨hs.nm, fun e => absurd e hn, by simp; omega, fun x hx => (List.mem_append.1 hx).elim (hs.exs x) (fun hx => by rw [List.mem_singleton] at hx; subst hx; exact export_sz (hra d (by simp)) he), ?_, hs.imp, hs.sets, hs.bod, hs.bare, hs.right⟩
     refine List.pairwise_append.2 ⟨hs.unl, List.pairwise_singleton _ _, fun x hx y hy => ?_⟩
     rw [List.mem_singleton] at hy
     subst hy
     intro e2
     exact ha (List.any_eq_true.2 ⟨x, hx, by simpa using e2⟩)
    ·cases h
theorem imports_good : ∀ (a : List Dat) (s s' : LibS), RgL a → GoodL s → importsF a s = .ok s' → GoodL s'
 | [], s, s', _, hs, h => by rw [importsF] at h; cases h; exact hs
 | d :: r, s, s', ha, hs, h => by
  rw [importsF] at h
  split at h
  ·rename_i hl
   cases he : setF 12 d with
   | no x => rw [he] at h; cases h
   | ok e =>
    rw [he] at h
    refine imports_good r { s with imports := s.imports ++ [e] } s' (fun x hx => ha x (by simp [hx])) ?_ h
    refine ⟨hs.nm, hs.none, hs.exp, hs.exs, hs.unl, by simp; omega, fun x hx => ?_, hs.bod, hs.bare, hs.right⟩
    rcases List.mem_append.1 hx with hx | hx
    ·exact hs.sets x hx
    ·rw [List.mem_singleton] at hx
     subst hx
     exact set_shows 12 d _ (ha d (by simp)) he
  ·cases h
theorem add_good {l : List Dat} {s s' : LibS} (hr : RgL l) (hb : bareQL l = l) (hs : GoodL s) (h : addF l s = .ok s') : GoodL s' := by
 unfold addF at h
 split at h
 ·rename_i hl
  cases h
  refine ⟨hs.nm, hs.none, hs.exp, hs.exs, hs.unl, hs.imp, hs.sets, by simp; omega, by rw [bareQL_append, hs.bare, hb], fun x hx => ?_⟩
  rcases List.mem_append.1 hx with hx | hx
  ·exact hs.right x hx
  ·exact hr x hx
 ·cases h
theorem include_good (E : Env) : ∀ (a : List Dat) (s s' : LibS), GoodL s → includeF E a s = .ok s' → GoodL s'
 | [], s, s', hs, h => by rw [includeF] at h; cases h; exact hs
 | d :: r, s, s', hs, h => by
  rw [includeF] at h
  cases he : nameF d with
  | no x => rw [he] at h; cases h
  | ok n =>
   rw [he] at h
   simp only [Er.bind] at h
   split at h
   ·cases h
   ·split at h
    ·cases h
    ·rename_i ds hds
     cases ha : addF ds s with
     | no x => rw [ha] at h; cases h
     | ok s2 =>
      rw [ha] at h
      exact include_good E r s2 s' (add_good (read_rg hds) (read_bare hds) hs ha) h
mutual
theorem declD_good (E : Env) : ∀ (d : Dat) (s s' : LibS), RgD d → GoodL s → declD E d s = .ok s' → GoodL s'
 | ⟨k, n, nm, st, lb, ks⟩, s, s', ho, hi, h => by
  rw [declD] at h
  split at h
  ·rename_i hk
   exact declK_good E ks s s' (ho.kids hk) hi h
  ·cases h
theorem declK_good (E : Env) : ∀ (l : List Dat) (s s' : LibS), RgL l → GoodL s → declK E l s = .ok s' → GoodL s'
 | [], s, s', _, hi, h => by rw [declK] at h; cases h
 | x :: r, s, s', ho, hi, h => by
  have hr : RgL r := fun y hy => ho y (by simp [hy])
  have hC := declC_good E r s s' hr hi
  rw [declK] at h
  split at h
  ·split at h
   ·split at h
    ·cases h
    ·rename_i hn
     exact exports_good r s s' hr hn hi h
   ·split at h
    ·exact imports_good r s s' hr hi h
    ·split at h
     ·exact add_good hr.bare (bareL_bare r) hi h
     ·split at h
      ·exact include_good E r s s' hi h
      ·split at h
       ·exact hC h
       ·cases h
  ·cases h
theorem declL_good (E : Env) : ∀ (l : List Dat) (s s' : LibS), RgL l → GoodL s → declL E l s = .ok s' → GoodL s'
 | [], s, s', _, hi, h => by rw [declL] at h; cases h; exact hi
 | d :: r, s, s', ho, hi, h => by
  rw [declL] at h
  cases hd : declD E d s with
  | no x => rw [hd] at h; cases h
  | ok s2 =>
   rw [hd] at h
   exact declL_good E r s2 s' (fun y hy => ho y (by simp [hy])) (declD_good E d s s2 (ho d (by simp)) hi hd) h
theorem declC_good (E : Env) : ∀ (l : List Dat) (s s' : LibS), RgL l → GoodL s → declC E l s = .ok s' → GoodL s'
 | [], s, s', _, hi, h => by rw [declC] at h; cases h; exact hi
 | c :: r, s, s', ho, hi, h => by
  rw [declC] at h
  exact declB_good E c _ (fun s s' hi h => declC_good E r s s' (fun y hy => ho y (by simp [hy])) hi h) s s' (ho c (by simp)) hi h
theorem declB_good (E : Env) : ∀ (d : Dat) (k : LibS → Er LibS) (hk : ∀ s s', GoodL s → k s = .ok s' → GoodL s') (s s' : LibS), RgD d → GoodL s → declB E d k s = .ok s' → GoodL s'
 | ⟨k0, n, nm, st, lb, ks⟩, k, hk, s, s', ho, hi, h => by
  rw [declB] at h
  split at h
  ·rename_i h4
   exact declT_good E ks k hk s s' (ho.kids h4) hi h
  ·cases h
theorem declT_good (E : Env) : ∀ (l : List Dat) (k : LibS → Er LibS) (hk : ∀ s s', GoodL s → k s = .ok s' → GoodL s') (s s' : LibS), RgL l → GoodL s → declT E l k s = .ok s' → GoodL s'
 | [], k, hk, s, s', _, hi, h => by rw [declT] at h; cases h
 | x :: t, k, hk, s, s', ho, hi, h => by
  have h1 := declL_good E t s s' (fun y hy => ho y (by simp [hy])) hi
  rw [declT] at h
  cases hc : clauseF E x with
  | no z => rw [hc] at h; cases h
  | ok b =>
   rw [hc] at h
   cases b with
   | true => exact h1 h
   | false => exact hk s s' hi h
end
theorem lib0_good {nm : ByteArray} (h : nm.size ≤ 60) : GoodL ⟨nm, [], [], []⟩ :=
 ⟨h, fun _ => rfl, by show (0 : Nat) ≤ 200; omega, fun x hx => absurd hx (by simp), List.Pairwise.nil, by show (0 : Nat) ≤ 20; omega, fun x hx => absurd hx (by simp), by show (0 : Nat) ≤ 200; omega, by show bareQL [] = []; rw [bareQL], fun x hx => absurd hx (by simp)⟩
theorem rg_form {d : Dat} {f : ByteArray × List Dat} (h : RgD d) (hf : formF d = .ok f) : RgL f.2 := by
 unfold formF at hf
 cases ht : thingsF d with
 | no z => rw [ht] at hf; cases hf
 | ok l =>
  rw [ht] at hf
  have hl := rg_things h ht
  cases l with
  | nil => cases hf
  | cons x r =>
   simp only [Er.bind, headF] at hf
   cases hn : nameF x with
   | no z => rw [hn] at hf; cases hf
   | ok n =>
    rw [hn] at hf
    cases hf
    exact fun y hy => hl y (by simp [hy])
theorem parse_good {E : Env} {d : Dat} {s : LibS} (h : parseF E d = .ok s) : GoodL s := by
 have hw : (wrong [d]).1 = 0 := by
  unfold parseF at h
  split at h
  ·assumption
  ·cases h
 have hd := RgD.of hw
 have h := parse_ok h
 unfold allF at h
 cases hf : formF d with
 | no z => rw [hf] at h; cases h
 | ok f =>
  rw [hf] at h
  have hr := rg_form hd hf
  simp only [Er.bind] at h
  split at h
  ·split at h
   ·cases h
   ·rename_i x r hx
    cases hc : calledF x with
    | no z => rw [hc] at h; cases h
    | ok n =>
     rw [hc] at h
     rw [hx] at hr
     exact declL_good E r _ s (fun y hy => hr y (by simp [hy])) (lib0_good (called_size hc)) h
  ·split at h
   ·exact declL_good E f.2 lib0 s hr (lib0_good (nm := ⟨#[]⟩) (by decide)) h
   ·cases h
theorem turns_plain {E E' : Env} {d : Dat} {s : LibS} (h : parseF E d = .ok s) (hf : E'.files.length ≤ 30) (hw : (wrong [showD s]).1 = 0) : parseF E' (showD s) = .ok s := show_turns (parse_good h) E' hf hw
end
end Go.Proofs.YtonafbennobgdaaGreatDoor
