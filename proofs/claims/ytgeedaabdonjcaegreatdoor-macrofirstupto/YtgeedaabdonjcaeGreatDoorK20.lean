/- Package rule set: a node alone. The least and the greatest of a row of numbers. Rows of data that a call makes by append, with room. -/
import Derived.Deep.RegionHeld3
import Derived.Test.YtgeedaabdonjcaeGreatDoorK19
namespace Go.Proofs.YtgeedaabdonjcaeGreatDoor
section
set_option linter.unusedVariables false
set_option linter.unusedSimpArgs false
open Go.RowKit Go.Maps Go.WideMaps

/-- A node without its kids. -/
def soleD : Dat → Dat
  | ⟨k, n, nm, st, lb, _⟩ => if k = 3 then ⟨3, 0, nm, st, lb, []⟩ else if k = 1 ∨ k = 2 then ⟨k, n, emS, 0, 0, []⟩ else ⟨k, 0, emS, 0, 0, []⟩

set_option maxHeartbeats 400000 in
theorem symbol88_any (d : Dat) (a : Option Addr) (cap : Nat) (w : World) :
    Calls Tryz.prog 88 #[dv d a cap] w fun e w' => e = .returned (.string (symS d.kind d.name)) ∧ Below w.heap.size w w' := by
  obtain ⟨k, n, nm, st, lb, ks⟩ := d
  unfold dv symS
  simp only
  by_cases hk : k = 3
  · subst hk
    go_enter Tryz.func88, Tryz.ntmps88
    go_wp2_with fail
    go_ret
    exact ⟨rfl, (Below.refl _ _).alloc (Nat.le_refl _) _⟩
  · have hk' : (k == 3) = false := by simpa using hk
    rw [if_neg hk]
    clear hk
    go_enter Tryz.func88, Tryz.ntmps88
    go_wp2_with fail
    go_ret
    exact ⟨rfl, (Below.refl _ _).alloc (Nat.le_refl _) _⟩

theorem Clone116 (s : ByteArray) (w : World) (hlim : s.size ≤ 281474976710656) :
    Calls Tryz.prog 116 #[.string s] w fun e w' => e = .returned (.string s) ∧ Below w.heap.size w w' := by
  go_enter Tryz.func116, Tryz.ntmps116
  go_wp2_with fail
  refine (Tryz.stringslite_Clone s w hlim).mono ?_
  rintro e w1 ⟨rfl, hb⟩
  go_wp2_with fail
  go_ret
  exact ⟨rfl, hb⟩

theorem below3 (w : World) (o o' o'' : Obj) : Below w.heap.size w (((w.alloc o).alloc o').alloc o'') :=
  (((Below.refl _ _).alloc (Nat.le_refl _) _).alloc (by simp) _).alloc (by simp; omega) _

section
variable {w w1 : World} {k n : Int} {nm : ByteArray} {st lb : Int} {sl : Value}
def aloneW (w : World) (k n : Int) (nm : ByteArray) (st lb : Int) (sl : Value) : World :=
  (((w.alloc (.cells #[.int .i64 k, .int .i64 n, .string nm, .int .i64 st, .int .i64 lb, sl] 28)).alloc (.cells #[.int .i64 0, .int .i64 0, .string ⟨#[]⟩, .int .i64 0, .int .i64 0, .slice none 0 0] 28)).alloc (.cells #[.int .i64 k, .int .i64 0, .string ⟨#[]⟩, .int .i64 0, .int .i64 0, .slice none 0 0] 28)).drew
theorem aloneB (h : Below (aloneW w k n nm st lb sl).heap.size (aloneW w k n nm st lb sl) w1) : Below w.heap.size w w1 :=
  (Below.drew (below3 w _ _ _)).trans (h.mono (by unfold aloneW; simp; omega))
theorem aloneK (h : Below (aloneW w k n nm st lb sl).heap.size (aloneW w k n nm st lb sl) w1) : w.heap.size + 1 + 1 < w1.heap.size ∧
    (w1.cell? ⟨w.heap.size, 2, none⟩ = some (.string nm) ∧ w1.cell? ⟨w.heap.size, 3, none⟩ = some (.int .i64 st) ∧ w1.cell? ⟨w.heap.size, 4, none⟩ = some (.int .i64 lb)) ∧
    (w1.cell? ⟨w.heap.size + 1 + 1, 0, none⟩ = some (.int .i64 k) ∧ w1.cell? ⟨w.heap.size + 1 + 1, 1, none⟩ = some (.int .i64 0) ∧ w1.cell? ⟨w.heap.size + 1 + 1, 2, none⟩ = some (.string ⟨#[]⟩) ∧ w1.cell? ⟨w.heap.size + 1 + 1, 3, none⟩ = some (.int .i64 0) ∧ w1.cell? ⟨w.heap.size + 1 + 1, 4, none⟩ = some (.int .i64 0) ∧ w1.cell? ⟨w.heap.size + 1 + 1, 5, none⟩ = some (.slice none 0 0) ∧
     (∀ j, w1.frozen? ⟨w.heap.size + 1 + 1, j, none⟩ = false) ∧ (∀ j, w1.frozen? ⟨w.heap.size + 1, j, none⟩ = false) ∧
     w1.cell? ⟨w.heap.size + 1, 0, none⟩ = some (.int .i64 0) ∧ w1.cell? ⟨w.heap.size + 1, 1, none⟩ = some (.int .i64 0) ∧ w1.cell? ⟨w.heap.size + 1, 2, none⟩ = some (.string ⟨#[]⟩) ∧ w1.cell? ⟨w.heap.size + 1, 3, none⟩ = some (.int .i64 0) ∧ w1.cell? ⟨w.heap.size + 1, 4, none⟩ = some (.int .i64 0) ∧ w1.cell? ⟨w.heap.size + 1, 5, none⟩ = some (.slice none 0 0)) := by
  have hz : (aloneW w k n nm st lb sl).heap.size = w.heap.size + 1 + 1 + 1 := by unfold aloneW; simp
  have e : ∀ b q, b < w.heap.size + 1 + 1 + 1 → w1.cell? ⟨b, q, none⟩ = (aloneW w k n nm st lb sl).cell? ⟨b, q, none⟩ := fun b q hb => h.cell (p := ⟨b, q, none⟩) (by rw [hz]; exact hb)
  have e' : ∀ b q, b < w.heap.size + 1 + 1 + 1 → w1.frozen? ⟨b, q, none⟩ = (aloneW w k n nm st lb sl).frozen? ⟨b, q, none⟩ := fun b q hb => h.frozen (p := ⟨b, q, none⟩) (by rw [hz]; exact hb)
  refine ⟨by have := h.size; rw [hz] at this; omega, ⟨?_, ?_, ?_⟩, ?_, ?_, ?_, ?_, ?_, ?_, fun j => ?_, fun j => ?_, ?_, ?_, ?_, ?_, ?_, ?_⟩
  all_goals first | rw [e _ _ (by omega)] | rw [e' _ _ (by omega)]
  all_goals unfold aloneW
  all_goals go_simp
end

set_option maxRecDepth 100000 in
set_option maxHeartbeats 3200000 in
theorem alone_any (d : Dat) (a : Option Addr) (cap : Nat) (w : World) (hn : d.kind = 3 → d.name.size ≤ 281474976710656) :
    Calls Tryz.prog 91 #[dv d a cap] w fun e w' => e = .returned (dv (soleD d) none 0) ∧ Below w.heap.size w w' := by
  obtain ⟨k, n, nm, st, lb, ks⟩ := d
  unfold dv
  simp only at hn ⊢
  by_cases h1 : k = 1
  · subst h1
    simp only [soleD, Int.reduceEq, if_false, true_or, if_true, emS]
    go_enter Tryz.func91, Tryz.ntmps91
    go_wp2_with fail
    refine bodyPost_ret (v := dv ⟨1, n, emS, 0, 0, []⟩ none 0) (by simp [results, Tryz.results91, go_sem, dv, emS]) rfl ?_
    exact ⟨rfl, below3 _ _ _ _⟩
  by_cases h2 : k = 2
  · subst h2
    simp only [soleD, Int.reduceEq, if_false, or_true, if_true, emS]
    go_enter Tryz.func91, Tryz.ntmps91
    go_wp2_with fail
    refine bodyPost_ret (v := dv ⟨2, n, emS, 0, 0, []⟩ none 0) (by simp [results, Tryz.results91, go_sem, dv, emS]) rfl ?_
    exact ⟨rfl, below3 _ _ _ _⟩
  by_cases h3 : k = 3
  · subst h3
    replace hn := hn rfl
    simp only [soleD, if_true]
    clear h1 h2
    go_enter Tryz.func91, Tryz.ntmps91
    go_wp2_with fail
    go_region_held3 (fun w' => w'.cell? ⟨w.heap.size, 2, none⟩ = some (.string nm) ∧ w'.cell? ⟨w.heap.size, 3, none⟩ = some (.int .i64 st) ∧ w'.cell? ⟨w.heap.size, 4, none⟩ = some (.int .i64 lb))
      (first | exact hc3 | (refine ⟨?_, ?_, ?_⟩ <;> go_simp))
      (first | (go_at_call 116; refine (Clone116 nm _ hn).mono ?_; rintro e w1 ⟨rfl, hb⟩; obtain ⟨hs1, hc3, hd3⟩ := aloneK hb; obtain ⟨x0, x1, x2, x3, x4, x5, y0, y1, y2, y3, y4, y5, y6, y7⟩ := hd3; have HB := hidd (aloneB hb); clear hb))
    all_goals (go_wp2_with fail)
    all_goals refine bodyPost_ret (v := dv ⟨3, 0, nm, st, lb, []⟩ none 0) (by simp [results, Tryz.results91, go_sem, dv, emS, y2, y3, y4, y5, y6, y7]) rfl ?_
    all_goals refine ⟨rfl, below_six ((((HB.out.setCell (p := ⟨w.heap.size + 1 + 1, 2, none⟩) (by simp; omega) _).setCell (p := ⟨w.heap.size + 1 + 1, 3, none⟩) (by simp; omega) _).setCell (p := ⟨w.heap.size + 1 + 1, 4, none⟩) (by simp; omega) _)) (by omega) _ _ _ _ _ _⟩
  · have e1 : (k == 1) = false := by simpa using h1
    have e2 : (k == 2) = false := by simpa using h2
    have e3 : (k == 3) = false := by simpa using h3
    have hx : ¬ (k = 1 ∨ k = 2) := by omega
    simp only [soleD, if_neg h3, if_neg hx, emS]
    clear h1 h2 h3 hx
    go_enter Tryz.func91, Tryz.ntmps91
    go_wp2_with fail
    refine bodyPost_ret (v := dv ⟨k, 0, emS, 0, 0, []⟩ none 0) (by simp [results, Tryz.results91, go_sem, dv, emS]) rfl ?_
    exact ⟨rfl, below3 _ _ _ _⟩
end
section
set_option linter.unusedVariables false
set_option linter.unusedSimpArgs false
open Go.RowKit Go.Maps Go.WideMaps

/-- Numbers lie in block b. -/
def NumsIn (b : Nat) (l : List Nat) (w : World) : Prop := l.length ≤ 4611686018427387904 ∧ ∀ (i x : Nat), l[i]? = some x → x ≤ 4611686018427387904 ∧ w.cell? ⟨b, i, none⟩ = some (.int .i64 (x : Int))

def minL (l : List Nat) : Nat := l.foldl min (l.headD 0)
def maxL (l : List Nat) : Nat := l.foldl max (l.headD 0)

theorem minL_take {l : List Nat} {j x : Nat} (h : l[j]? = some x) (h0 : 0 < j) : minL (l.take (j + 1)) = min (minL (l.take j)) x := by
  unfold minL
  have e : l.take (j + 1) = l.take j ++ [x] := by rw [List.take_add_one, h]; rfl
  have e2 : (l.take (j + 1)).headD 0 = (l.take j).headD 0 := by
    cases l with
    | nil => simp
    | cons y r =>
      obtain ⟨i, rfl⟩ : ∃ i, j = i + 1 := ⟨j - 1, by omega⟩
      simp
  rw [e2, e, List.foldl_append]
  rfl
theorem maxL_take {l : List Nat} {j x : Nat} (h : l[j]? = some x) (h0 : 0 < j) : maxL (l.take (j + 1)) = max (maxL (l.take j)) x := by
  unfold maxL
  have e : l.take (j + 1) = l.take j ++ [x] := by rw [List.take_add_one, h]; rfl
  have e2 : (l.take (j + 1)).headD 0 = (l.take j).headD 0 := by
    cases l with
    | nil => simp
    | cons y r =>
      obtain ⟨i, rfl⟩ : ∃ i, j = i + 1 := ⟨j - 1, by omega⟩
      simp
  rw [e2, e, List.foldl_append]
  rfl

theorem foldl_min_le (l : List Nat) : ∀ (a : Nat), l.foldl min a ≤ a ∧ ∀ x ∈ l, l.foldl min a ≤ x := by
  induction l with
  | nil => exact fun a => ⟨Nat.le_refl _, fun x h => by cases h⟩
  | cons y r ih =>
    intro a
    obtain ⟨h1, h2⟩ := ih (min a y)
    rw [List.foldl_cons]
    refine ⟨by omega, fun x hx => ?_⟩
    rcases List.mem_cons.1 hx with rfl | hx
    · omega
    · exact h2 x hx
theorem foldl_max_ge (l : List Nat) : ∀ (a : Nat), a ≤ l.foldl max a ∧ ∀ x ∈ l, x ≤ l.foldl max a := by
  induction l with
  | nil => exact fun a => ⟨Nat.le_refl _, fun x h => by cases h⟩
  | cons y r ih =>
    intro a
    obtain ⟨h1, h2⟩ := ih (max a y)
    rw [List.foldl_cons]
    refine ⟨by omega, fun x hx => ?_⟩
    rcases List.mem_cons.1 hx with rfl | hx
    · omega
    · exact h2 x hx
theorem foldl_same (l : List Nat) (a : Nat) (h : ∀ x ∈ l, x = a) : l.foldl min a = a ∧ l.foldl max a = a := by
  induction l with
  | nil => exact ⟨rfl, rfl⟩
  | cons y r ih =>
    have hy := h y (by simp)
    subst hy
    have := ih (fun x hx => h x (List.mem_cons_of_mem _ hx))
    simpa using this
/-- The least is the greatest just where all are alike. -/
theorem minmax_alike (l : List Nat) : (minL l == maxL l) = alikeB l := by
  rw [Bool.eq_iff_iff, beq_iff_eq, alikeB_iff]
  constructor
  · intro e x hx
    have h1 := (foldl_min_le l (l.headD 0)).2 x hx
    have h2 := (foldl_max_ge l (l.headD 0)).2 x hx
    have h3 := (foldl_min_le l (l.headD 0)).1
    have h4 := (foldl_max_ge l (l.headD 0)).1
    unfold minL maxL at e
    omega
  · intro h
    obtain ⟨h1, h2⟩ := foldl_same l _ h
    unfold minL maxL
    rw [h1, h2]

set_option maxRecDepth 100000 in
set_option maxHeartbeats 800000 in
theorem Min_any (b cap : Nat) (l : List Nat) (w : World) (h : NumsIn b l w) (h0 : l ≠ []) :
    Calls Tryz.prog 114 #[.slice (some ⟨b, 0, none⟩) l.length cap] w fun e w' => e = .returned (.int .i64 (minL l : Nat)) ∧ Below w.heap.size w w' := by
  have hlen := h.1
  have hpos : 0 < l.length := List.length_pos_iff.2 h0
  have HN : Hid (NumsIn b l w) := h
  obtain ⟨x0, hx0⟩ : ∃ x, l[0]? = some x := ⟨l[0], List.getElem?_eq_getElem hpos⟩
  obtain ⟨hxl, c0⟩ := h.2 0 x0 hx0
  have h1 : decide ((l.length : Int) < 1) = false := by simp; omega
  have START : Hid (minL (l.take 1) = x0) := by
    cases l with
    | nil => simp at hx0
    | cons y r =>
      simp at hx0
      subst hx0
      show minL ((y :: r).take 1) = y
      simp [minL]
  clear h h0 hx0
  go_enter Tryz.func114, Tryz.ntmps114
  go_wp2_with fail
  go_loopw [3, 4] (fun m i wr => ∃ j : Nat, 1 ≤ j ∧ j ≤ l.length ∧ i = .int .i64 j ∧ m = .int .i64 ((minL (l.take j) : Nat) : Int) ∧ wr = w) (fun _ i _ => l.length - (intOf i).toNat)
  case atStart => exact ⟨1, Nat.le_refl _, hpos, rfl, by rw [START.out], rfl⟩
  case round =>
    obtain ⟨j, hj1, hj, rfl, rfl, rfl⟩ := hrel
    by_cases hlt : j < l.length
    · obtain ⟨x, hx⟩ : ∃ x, l[j]? = some x := ⟨l[j], List.getElem?_eq_getElem hlt⟩
      obtain ⟨hxl, cj⟩ := HN.out.2 j x hx
      have E : Hid (minL (l.take (j + 1)) = min (minL (l.take j)) x) := minL_take hx hj1
      clear hx
      go_wp2_with fail
      go_roundw
      case rel => exact ⟨j + 1, by omega, by omega, by go_num, by rw [E.out]; go_num, trivial⟩
      case measure => simp [intOf]; omega
    · obtain rfl : j = l.length := by omega
      go_wp2_with fail
      go_ret
      exact ⟨by rw [List.take_length]; rfl, Below.refl _ _⟩
set_option maxRecDepth 100000 in
set_option maxHeartbeats 800000 in
theorem Max_any (b cap : Nat) (l : List Nat) (w : World) (h : NumsIn b l w) (h0 : l ≠ []) :
    Calls Tryz.prog 115 #[.slice (some ⟨b, 0, none⟩) l.length cap] w fun e w' => e = .returned (.int .i64 (maxL l : Nat)) ∧ Below w.heap.size w w' := by
  have hlen := h.1
  have hpos : 0 < l.length := List.length_pos_iff.2 h0
  have HN : Hid (NumsIn b l w) := h
  obtain ⟨x0, hx0⟩ : ∃ x, l[0]? = some x := ⟨l[0], List.getElem?_eq_getElem hpos⟩
  obtain ⟨hxl, c0⟩ := h.2 0 x0 hx0
  have h1 : decide ((l.length : Int) < 1) = false := by simp; omega
  have START : Hid (maxL (l.take 1) = x0) := by
    cases l with
    | nil => simp at hx0
    | cons y r =>
      simp at hx0
      subst hx0
      show maxL ((y :: r).take 1) = y
      simp [maxL]
  clear h h0 hx0
  go_enter Tryz.func115, Tryz.ntmps115
  go_wp2_with fail
  go_loopw [3, 4] (fun m i wr => ∃ j : Nat, 1 ≤ j ∧ j ≤ l.length ∧ i = .int .i64 j ∧ m = .int .i64 ((maxL (l.take j) : Nat) : Int) ∧ wr = w) (fun _ i _ => l.length - (intOf i).toNat)
  case atStart => exact ⟨1, Nat.le_refl _, hpos, rfl, by rw [START.out], rfl⟩
  case round =>
    obtain ⟨j, hj1, hj, rfl, rfl, rfl⟩ := hrel
    by_cases hlt : j < l.length
    · obtain ⟨x, hx⟩ : ∃ x, l[j]? = some x := ⟨l[j], List.getElem?_eq_getElem hlt⟩
      obtain ⟨hxl, cj⟩ := HN.out.2 j x hx
      have E : Hid (maxL (l.take (j + 1)) = max (maxL (l.take j)) x) := maxL_take hx hj1
      clear hx
      go_wp2_with fail
      go_roundw
      case rel => exact ⟨j + 1, by omega, by omega, by go_num, by rw [E.out]; go_num, trivial⟩
      case measure => simp [intOf]; omega
    · obtain rfl : j = l.length := by omega
      go_wp2_with fail
      go_ret
      exact ⟨by rw [List.take_length]; rfl, Below.refl _ _⟩
end
section
set_option linter.unusedVariables false
set_option linter.unusedSimpArgs false
open Go.RowKit

/-- Data ds lie behind a, in blocks that are such. -/
def Dc (ok : Nat → Prop) (w : World) : Nat → Option Addr → List Dat → Prop
  | 0, _, ds => ds = []
  | f + 1, a, ds => ds.length ≤ 9223372036854775807 ∧ (ds = [] ∨ ∃ b o, a = some ⟨b, o, none⟩ ∧ ok b ∧ ∀ (i : Nat) (d : Dat), ds[i]? = some d → ∃ a' cap,
      w.cell? ⟨b, o + i * 6, none⟩ = some (.int .i64 d.kind) ∧ w.cell? ⟨b, o + i * 6 + 1, none⟩ = some (.int .i64 d.n) ∧ w.cell? ⟨b, o + i * 6 + 2, none⟩ = some (.string d.name) ∧
      w.cell? ⟨b, o + i * 6 + 3, none⟩ = some (.int .i64 d.stamp) ∧ w.cell? ⟨b, o + i * 6 + 4, none⟩ = some (.int .i64 d.lib) ∧ w.cell? ⟨b, o + i * 6 + 5, none⟩ = some (.slice a' d.kids.length cap) ∧
      d.name.size ≤ maxLen ∧ d.kids.length ≤ cap ∧ Dc ok w f a' d.kids)

theorem Dc.stay {ok ok' : Nat → Prop} {w w' : World} (hw : ∀ k, ok k → w'.heap[k]? = w.heap[k]?) (ho : ∀ k, ok k → ok' k) : ∀ (f : Nat) (a : Option Addr) (ds : List Dat), Dc ok w f a ds → Dc ok' w' f a ds
  | 0, _, _, h => h
  | f + 1, a, ds, h => by
    obtain ⟨hl, h⟩ := h
    refine ⟨hl, ?_⟩
    rcases h with h | ⟨b, o, ha, hb, h⟩
    · exact Or.inl h
    · refine Or.inr ⟨b, o, ha, ho b hb, fun i d hd => ?_⟩
      obtain ⟨a', cap, c0, c1, c2, c3, c4, c5, hn, hc, hk⟩ := h i d hd
      have e : ∀ q, w'.cell? ⟨b, q, none⟩ = w.cell? ⟨b, q, none⟩ := fun q => World.cell?_of_block (hw b hb)
      exact ⟨a', cap, (e _).trans c0, (e _).trans c1, (e _).trans c2, (e _).trans c3, (e _).trans c4, (e _).trans c5, hn, hc, Dc.stay hw ho f a' _ hk⟩

theorem Dc.nil (ok : Nat → Prop) (w : World) (f : Nat) (a : Option Addr) : Dc ok w f a [] := by
  cases f with
  | zero => rfl
  | succ f => exact ⟨Nat.zero_le _, Or.inl rfl⟩

theorem Dc.more {ok : Nat → Prop} {w : World} : ∀ (f : Nat) (a : Option Addr) (ds : List Dat), Dc ok w f a ds → Dc ok w (f + 1) a ds
  | 0, a, ds, h => by
    rw [show ds = [] from h]
    exact Dc.nil _ _ _ _
  | f + 1, a, ds, h => by
    obtain ⟨hl, h⟩ := h
    refine ⟨hl, ?_⟩
    rcases h with h | ⟨b, o, ha, hb, h⟩
    · exact Or.inl h
    · refine Or.inr ⟨b, o, ha, hb, fun i d hd => ?_⟩
      obtain ⟨a', cap, c0, c1, c2, c3, c4, c5, hn, hc, hk⟩ := h i d hd
      exact ⟨a', cap, c0, c1, c2, c3, c4, c5, hn, hc, Dc.more f a' _ hk⟩

theorem Dc.upto {ok : Nat → Prop} {w : World} {f : Nat} {a : Option Addr} {ds : List Dat} (h : Dc ok w f a ds) : ∀ (k : Nat), Dc ok w (f + k) a ds
  | 0 => h
  | k + 1 => Dc.more _ _ _ (h.upto k)

theorem Dc.lies {ok : Nat → Prop} {B : Nat} {w : World} (ho : ∀ k, ok k → k < B) : ∀ (f : Nat) (a : Option Addr) (ds : List Dat), Dc ok w f a ds → Lies B w f a ds
  | 0, _, _, h => h
  | f + 1, a, ds, h => by
    obtain ⟨hl, h⟩ := h
    refine ⟨hl, ?_⟩
    rcases h with h | ⟨b, o, ha, hb, h⟩
    · exact Or.inl h
    · refine Or.inr ⟨b, o, ha, ho b hb, fun i d hd => ?_⟩
      obtain ⟨a', cap, c0, c1, c2, c3, c4, c5, hn, hc, hk⟩ := h i d hd
      exact ⟨a', cap, c0, c1, c2, c3, c4, c5, hn, Dc.lies ho f a' _ hk⟩

theorem Dc.caps {ok : Nat → Prop} {w : World} : ∀ (f : Nat) (a : Option Addr) (ds : List Dat), Dc ok w f a ds → Caps w f a ds
  | 0, _, _, h => h
  | f + 1, a, ds, h => by
    obtain ⟨hl, h⟩ := h
    rcases h with h | ⟨b, o, ha, hb, h⟩
    · exact Or.inl h
    · refine Or.inr ⟨b, o, ha, fun i d hd => ?_⟩
      obtain ⟨a', cap, c0, c1, c2, c3, c4, c5, hn, hc, hk⟩ := h i d hd
      exact ⟨a', cap, c5, hc, Dc.caps f a' _ hk⟩
theorem Dc.lc {ok : Nat → Prop} {B : Nat} {w : World} (ho : ∀ k, ok k → k < B) {f : Nat} {a : Option Addr} {ds : List Dat} (h : Dc ok w f a ds) : LC B w f a ds := ⟨Dc.lies ho _ _ _ h, Dc.caps _ _ _ h⟩

/-- A row of data that a call has made: v holds them; what they lead to lies elsewhere, in the call's own blocks. -/
structure RowC (B : Nat) (v : Value) (es : List (Dat × Option Addr × Nat)) (w : World) : Prop where
  own : w.ownsRow B 28 6 v es.length (flat es)
  kids : ∀ e ∈ es, e.1.name.size ≤ maxLen ∧ e.1.kids.length ≤ e.2.2 ∧ ∃ f, Dc (fun b => B ≤ b ∧ b < w.heap.size ∧ some b ≠ v.ownBlock) w f e.2.1 e.1.kids

theorem RowC.nil (B : Nat) (w : World) : RowC B (.slice none 0 0) [] w := ⟨World.ownsRow_nil _ _ _ _, by simp⟩

theorem RowC.keep {B rb : Nat} {v : Value} {es : List (Dat × Option Addr × Nat)} {w w' : World} (h : RowC B v es w) (hk : Keep rb w w') (hrb : rb < B) : RowC B v es w' := by
  refine ⟨h.own.kept hk ?_, fun e he => ?_⟩
  · cases hv : v.ownBlock with
    | none => exact Or.inl rfl
    | some k =>
      have := (h.own.lt k hv).1
      refine Or.inr ?_
      intro e
      have := Option.some.inj e
      omega
  · obtain ⟨hn, hc, f, hd⟩ := h.kids e he
    refine ⟨hn, hc, f, Dc.stay ?_ ?_ f _ _ hd⟩
    · intro k hk2
      exact hk.block k hk2.2.1 (by simp; omega)
    · intro k hk2
      exact ⟨hk2.1, Nat.lt_of_lt_of_le hk2.2.1 hk.size, hk2.2.2⟩

theorem RowC.below {B : Nat} {v : Value} {es : List (Dat × Option Addr × Nat)} {w w' : World} (h : RowC B v es w) (hk : Below w.heap.size w w') : RowC B v es w' := by
  refine ⟨h.own.kept (row := none) ⟨hk.os, hk.tape, hk.output, hk.size, fun k h1 _ => hk.block k h1⟩ (by cases hv : v.ownBlock <;> simp), fun e he => ?_⟩
  obtain ⟨hn, hc, f, hd⟩ := h.kids e he
  refine ⟨hn, hc, f, Dc.stay ?_ ?_ f _ _ hd⟩
  · intro k hk2
    exact hk.block k hk2.2.1
  · intro k hk2
    exact ⟨hk2.1, Nat.lt_of_lt_of_le hk2.2.1 hk.size, hk2.2.2⟩

/-- One datum more: read behind world wr, in world w; appended, behind a one-datum slice. -/
theorem RowC.push {B : Nat} {v v' : Value} {es : List (Dat × Option Addr × Nat)} {wr w w' : World} (o : Obj) {d : Dat} {a : Option Addr} {cap f : Nat} (h : RowC B v es w) (hB : B ≤ wr.heap.size) (hv : ∀ k, v.ownBlock = some k → k < wr.heap.size)
    (hd : Dc (New wr w) w f a d.kids) (hn : d.name.size ≤ maxLen) (hcap : d.kids.length ≤ cap)
    (hown : w'.ownsRow B 28 6 v' (es.length + 1) (flat es ++ [.int .i64 d.kind, .int .i64 d.n, .string d.name, .int .i64 d.stamp, .int .i64 d.lib, .slice a d.kids.length cap]))
    (hg : (w.alloc o).grownBy w' v.ownBlock) (hw : v'.ownBlock = v.ownBlock ∨ v'.ownBlock = some (w.heap.size + 1)) : RowC B v' (es ++ [(d, a, cap)]) w' := by
  have hsz : (w.alloc o).heap.size = w.heap.size + 1 := by simp
  have hold : ∀ k, k < w.heap.size → some k ≠ v.ownBlock → w'.heap[k]? = w.heap[k]? := fun k hk hne => (hg.block k (by omega) hne).trans (Below.heap_alloc _ _ _ hk)
  have hnew : ∀ k, k < w.heap.size → some k ≠ v.ownBlock → some k ≠ v'.ownBlock := by
    intro k hk hne
    rcases hw with e | e
    · rw [e]; exact hne
    · rw [e]
      intro e2
      have := Option.some.inj e2
      omega
  have hle : w.heap.size ≤ w'.heap.size := Nat.le_trans (by omega) hg.size
  refine ⟨?_, fun e he => ?_⟩
  · have e1 : flat (es ++ [(d, a, cap)]) = flat es ++ [.int .i64 d.kind, .int .i64 d.n, .string d.name, .int .i64 d.stamp, .int .i64 d.lib, .slice a d.kids.length cap] := by simp [flat]
    rw [e1, List.length_append]
    exact hown
  · rcases List.mem_append.1 he with he | he
    · obtain ⟨hn, hc, f, hd⟩ := h.kids e he
      refine ⟨hn, hc, f, Dc.stay (fun k hk => hold k hk.2.1 hk.2.2) (fun k hk => ⟨hk.1, Nat.lt_of_lt_of_le hk.2.1 hle, hnew k hk.2.1 hk.2.2⟩) f _ _ hd⟩
    · simp at he
      subst he
      have hne : ∀ k, New wr w k → some k ≠ v.ownBlock := by
        intro k hk e
        have := hv k e.symm
        have := hk.1
        omega
      exact ⟨hn, hcap, f, Dc.stay (fun k hk => hold k hk.2 (hne k hk)) (fun k hk => ⟨by have := hk.1; omega, Nat.lt_of_lt_of_le hk.2 hle, hnew k hk.2 (hne k hk)⟩) f _ _ hd⟩

/-- What a row's value is, and how its data lie. -/
theorem RowC.lie {B : Nat} {v : Value} {es : List (Dat × Option Addr × Nat)} {w : World} (h : RowC B v es w) (hlen : es.length ≤ 9223372036854775807) : ∃ a cap f, v = .slice a (es.map (·.1)).length cap ∧ (es.map (·.1)).length ≤ cap ∧ Dc (fun b => B ≤ b ∧ b < w.heap.size) w f a (es.map (·.1)) := by
  -- one depth for all
  have hfuel : ∃ F, ∀ e ∈ es, Dc (fun b => B ≤ b ∧ b < w.heap.size) w F e.2.1 e.1.kids := by
    have aux : ∀ (l : List (Dat × Option Addr × Nat)), (∀ e ∈ l, ∃ f, Dc (fun b => B ≤ b ∧ b < w.heap.size) w f e.2.1 e.1.kids) → ∃ F, ∀ e ∈ l, Dc (fun b => B ≤ b ∧ b < w.heap.size) w F e.2.1 e.1.kids := by
      intro l
      induction l with
      | nil => exact fun _ => ⟨0, by simp⟩
      | cons x r ih =>
        intro hx
        obtain ⟨F, hF⟩ := ih (fun e he => hx e (List.mem_cons_of_mem _ he))
        obtain ⟨f, hf⟩ := hx x (by simp)
        refine ⟨f + F, fun e he => ?_⟩
        rcases List.mem_cons.1 he with rfl | he
        · exact hf.upto F
        · have := (hF e he).upto f
          rwa [Nat.add_comm] at this
    refine aux es (fun e he => ?_)
    obtain ⟨_, _, f, hd⟩ := h.kids e he
    exact ⟨f, Dc.stay (fun _ _ => rfl) (fun k hk => ⟨hk.1, hk.2.1⟩) f _ _ hd⟩
  obtain ⟨F, hF⟩ := hfuel
  rcases h.own.2 with ⟨rfl, h0⟩ | ⟨g, cap, cur, rfl, hbg, hg, hnc, hcm, hcs, htake⟩
  · have : es = [] := List.length_eq_zero_iff.1 h0
    subst this
    exact ⟨none, 0, 0, rfl, Nat.le_refl _, rfl⟩
  · refine ⟨some ⟨g, 0, none⟩, cap, F + 1, by simp, by simpa using hnc, ?_⟩
    refine ⟨by simp; exact hlen, ?_⟩
    refine Or.inr ⟨g, 0, rfl, ⟨hbg, (Array.getElem?_eq_some_iff.1 hg).1⟩, ?_⟩
    intro i d hd
    rw [List.getElem?_map] at hd
    obtain ⟨e, he, rfl⟩ := Option.map_eq_some_iff.1 hd
    have hmem : e ∈ es := List.mem_of_getElem? he
    have hcell : ∀ j u, (flat es)[j]? = some u → w.cell? ⟨g, j, none⟩ = some u := by
      intro j u hu
      have := h.own.cells (g := g) rfl j u hu
      have hadd : (⟨g, 0, none⟩ : Addr).add j = ⟨g, j, none⟩ := by unfold Addr.add; split <;> simp_all
      rwa [hadd] at this
    have hflat : ∀ k, k < 6 → (flat es)[i * 6 + k]? = [Value.int .i64 e.1.kind, .int .i64 e.1.n, .string e.1.name, .int .i64 e.1.stamp, .int .i64 e.1.lib, .slice e.2.1 e.1.kids.length e.2.2][k]? := by
      have aux : ∀ (l : List (Dat × Option Addr × Nat)) (i : Nat), l[i]? = some e → ∀ k, k < 6 → (flat l)[i * 6 + k]? = [Value.int .i64 e.1.kind, .int .i64 e.1.n, .string e.1.name, .int .i64 e.1.stamp, .int .i64 e.1.lib, .slice e.2.1 e.1.kids.length e.2.2][k]? := by
        intro l
        induction l with
        | nil => intro i hi; simp at hi
        | cons x r ih =>
          intro i hi k hk
          have e1 : flat (x :: r) = [Value.int .i64 x.1.kind, .int .i64 x.1.n, .string x.1.name, .int .i64 x.1.stamp, .int .i64 x.1.lib, .slice x.2.1 x.1.kids.length x.2.2] ++ flat r := by simp [flat]
          rw [e1]
          cases i with
          | zero =>
            simp at hi
            subst hi
            rw [List.getElem?_append_left (by simp; omega)]
            simp
          | succ i =>
            rw [List.getElem?_append_right (by simp; omega)]
            have := ih i (by simpa using hi) k hk
            rw [← this]
            congr 1
            simp
            omega
      exact aux es i he
    refine ⟨e.2.1, e.2.2, ?_, ?_, ?_, ?_, ?_, ?_, (h.kids e hmem).1, (h.kids e hmem).2.1, hF e hmem⟩
    all_goals rw [Nat.zero_add]
    · exact hcell _ _ (hflat 0 (by decide))
    · exact hcell _ _ (hflat 1 (by decide))
    · exact hcell _ _ (hflat 2 (by decide))
    · exact hcell _ _ (hflat 3 (by decide))
    · exact hcell _ _ (hflat 4 (by decide))
    · exact hcell _ _ (hflat 5 (by decide))
end
end Go.Proofs.YtgeedaabdonjcaeGreatDoor
