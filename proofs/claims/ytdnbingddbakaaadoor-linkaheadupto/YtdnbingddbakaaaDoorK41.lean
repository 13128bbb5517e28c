/- Chapter 10, plainly: what an image is. -/
import Derived.Test.YtdnbingddbakaaaDoorK40
namespace Go.Proofs.YtdnbingddbakaaaDoor
set_option linter.unusedVariables false
set_option linter.unusedSimpArgs false
open Go.RowKit

theorem chkL_right (g : Dat → Nat → Int × Nat) (hg : ∀ d n, n ≤ 2000 → (g d n).1 = 0 → smQ d ∧ n + 1 ≤ (g d n).2 ∧ (g d n).2 ≤ 2000) : ∀ (l : List Dat) (n : Nat), n ≤ 2000 → (chkL g l n).1 = 0 → smQL l ∧ n + l.length ≤ (chkL g l n).2 ∧ (chkL g l n).2 ≤ 2000
  | [], n, hn, _ => by rw [smQL, chkL]; exact ⟨trivial, Nat.le_refl _, hn⟩
  | d :: r, n, hn, h => by
    unfold chkL at h ⊢
    by_cases e : (g d n).1 = 0
    · rw [if_pos e] at h ⊢
      have h1 := hg d n hn e
      have h2 := chkL_right g hg r _ h1.2.2 h
      rw [smQL]
      refine ⟨⟨h1.1, h2.1⟩, ?_, h2.2.2⟩
      rw [List.length_cons]
      omega
    · rw [if_neg e] at h
      exact absurd h e
theorem chk_right : ∀ (f : Nat) (d : Dat) (n : Nat), n ≤ 2000 → (chk f d n).1 = 0 → smQ d ∧ n + 1 ≤ (chk f d n).2 ∧ (chk f d n).2 ≤ 2000
  | 0, d, n, _, h0 => by simp [chk] at h0
  | f + 1, d, n, h, h0 => by
    have hle := chk_le (f + 1) d n h h0
    refine ⟨?_, ?_, hle⟩
    · unfold chk at h0
      by_cases a : 2000 < n + 1
      · rw [if_pos a] at h0; simp at h0
      · rw [if_neg a] at h0
        by_cases b : alone d = 0
        · rw [if_pos b] at h0
          obtain ⟨k, m, nm, st, lb, ks⟩ := d
          rw [smQ]
          refine ⟨fun h3 => ?_, fun h4 => ?_⟩
          · subst h3
            unfold alone at b
            simp at b
            by_cases c : namedB nm = true
            · unfold namedB at c
              simp at c
              omega
            · simp [c] at b
          · simp only at h0
            rw [if_pos h4] at h0
            have h5 := chkL_right (chk f) (fun d n => chk_right f d n) ks (n + 1) (by omega) h0
            exact ⟨by omega, h5.1⟩
        · rw [if_neg b] at h0
          exact absurd h0 b
    · unfold chk at h0 ⊢
      by_cases a : 2000 < n + 1
      · rw [if_pos a] at h0; simp at h0
      · rw [if_neg a] at h0 ⊢
        by_cases b : alone d = 0
        · rw [if_pos b] at h0 ⊢
          by_cases c : d.kind = 4
          · rw [if_pos c] at h0 ⊢
            have h5 := chkL_right (chk f) (fun d n => chk_right f d n) d.kids (n + 1) (by omega) h0
            omega
          · rw [if_neg c]; exact Nat.le_refl _
        · rw [if_neg b] at h0
          exact absurd h0 b
theorem wrong_right {q : Dat} (h : (wrong [q]).1 = 0) : smQ q := by
  unfold wrong wrongFrom at h
  by_cases e : (chk 40 q 0).1 = 0
  · exact (chk_right 40 q 0 (by omega) e).1
  · rw [if_neg e] at h
    exact absurd h e


theorem argsB_small (s : ByteArray) (h : argsB s ≠ 0) : s.size ≤ 1000 := by
  have hm : s ∈ primTab.map (·.1) := (argsTab_mem primTab s (by decide)).1 h
  have hall : ∀ x ∈ primTab.map (·.1), x.size ≤ 1000 := by decide
  exact hall s hm
/-- What a right instruction is like, to be placed. -/
theorem Right.place {nm : ByteArray} {PP : List Pro} (h : Right nm PP) {P : Pro} (hP : P ∈ PP) {x : In} (hx : x ∈ P.code) :
    (1 ≤ x.op ∧ x.op ≤ 15) ∧ (x.op = 3 → smQ x.quote) ∧ (x.op = 6 → x.own.size ≤ 1000) ∧ (x.op = 7 → 0 ≤ x.a ∧ x.a ≤ 1000) := by
  obtain ⟨q, hq⟩ := List.mem_iff_getElem?.1 hP
  obtain ⟨K, hK⟩ := h.ins q P hq x hx
  have h5 := h.n500
  unfold insW at hK
  refine ⟨?_, fun h3 => ?_, fun h6 => ?_, fun h7 => ?_⟩
  · by_cases h1 : 1 ≤ x.op ∧ x.op ≤ 15
    · exact h1
    · rw [if_neg (by omega), if_neg (by omega), if_neg (by omega), if_neg (by omega), if_neg (by omega), if_neg (by omega), if_neg (by omega), if_neg (by omega), if_neg (by omega), if_neg (by omega)] at hK
      simp at hK
  · rw [if_neg (by omega), if_neg (by omega), if_pos h3] at hK
    exact wrong_right hK
  · rw [if_neg (by omega), if_neg (by omega), if_neg (by omega), if_neg (by omega), if_neg (by omega), if_pos h6] at hK
    refine argsB_small _ (fun e => ?_)
    simp [e] at hK
  · rw [if_neg (by omega), if_neg (by omega), if_neg (by omega), if_neg (by omega), if_neg (by omega), if_neg (by omega), if_pos h7] at hK
    unfold closeW at hK
    by_cases h1 : x.a ≤ q ∨ (PP.length : Int) ≤ x.a
    · rw [if_pos h1] at hK; simp at hK
    · omega
/-- A procedure, as it stands in an image. -/
def placeP (gs : List Gl) (st : Nat) (P : Pro) : Pro := ⟨P.args, P.code.map (placeI gs st)⟩
/-- AN IMAGE'S PROCEDURES, AND ITS STARTS. -/
def imgStep (gs : List Gl) (acc : List Pro × List Int) (u : Un) : List Pro × List Int := (acc.1 ++ u.2.map (placeP gs acc.1.length), acc.2 ++ [(acc.1.length : Int)])
def imgS (gs : List Gl) (us : List Un) : List Pro × List Int := us.foldl (imgStep gs) ([], [])
theorem imgS_next {gs : List Gl} {us : List Un} {j : Nat} {u : Un} (h : us[j]? = some u) : imgS gs (us.take (j + 1)) = imgStep gs (imgS gs (us.take j)) u := by
  rw [List.take_add_one, h]
  simp [imgS]
def zI : IE := ⟨⟨0, 0, 0, ⟨#[]⟩, ⟨#[]⟩, emD⟩, none, 0⟩
theorem flatI_at : ∀ (l : List IE) (i r : Nat) (e : IE), l[i]? = some e → r < 11 → (flatI l)[i * 11 + r]? = e.cells[r]?
  | [], i, r, e, h, _ => by simp at h
  | x :: t, 0, r, e, h, hr => by
    simp at h
    subst h
    rw [flatI_cons, Nat.zero_mul, Nat.zero_add, List.getElem?_append_left (by rw [IE.len]; exact hr)]
  | x :: t, i + 1, r, e, h, hr => by
    simp at h
    rw [flatI_cons, List.getElem?_append_right (by rw [IE.len]; omega), IE.len, show (i + 1) * 11 + r - 11 = i * 11 + r by omega]
    exact flatI_at t i r e h hr
theorem made_code (n : Nat) : madeCells #[.int .i64 0, .int .i64 0, .int .i64 0, .string ⟨#[]⟩, .string ⟨#[]⟩, .int .i64 0, .int .i64 0, .string ⟨#[]⟩, .int .i64 0, .int .i64 0, .slice none 0 0] (n * 11) = (flatI (List.replicate n zI)).toArray := by
  apply Array.ext
  · simp [size_madeCells, flatI_len]
  · intro i h1 h2
    rw [size_madeCells] at h1
    have e := flatI_at (List.replicate n zI) (i / 11) (i % 11) zI (by rw [List.getElem?_replicate, if_pos (by omega)]) (by omega)
    rw [show i / 11 * 11 + i % 11 = i by omega] at e
    have e2 : (flatI (List.replicate n zI)).toArray[i]? = zI.cells[i % 11]? := by simpa using e
    rw [Array.getElem?_eq_getElem h2] at e2
    have h3 : i % 11 = 0 ∨ i % 11 = 1 ∨ i % 11 = 2 ∨ i % 11 = 3 ∨ i % 11 = 4 ∨ i % 11 = 5 ∨ i % 11 = 6 ∨ i % 11 = 7 ∨ i % 11 = 8 ∨ i % 11 = 9 ∨ i % 11 = 10 := by omega
    simp only [madeCells, Array.getElem_map, Array.getElem_range]
    rcases h3 with h | h | h | h | h | h | h | h | h | h | h <;> rw [h] at e2 <;> simp [zI, IE.cells, ic, emD] at e2 <;> rw [show (#[.int .i64 0, .int .i64 0, .int .i64 0, .string ⟨#[]⟩, .string ⟨#[]⟩, .int .i64 0, .int .i64 0, .string ⟨#[]⟩, .int .i64 0, .int .i64 0, .slice none 0 0] : Array Value).size = 11 from rfl, h] <;> exact e2.symm
theorem infoIns : (Tryd.prog.info? 51).map (fun i => (i.zero, i.size, i.bytes)) = some (some (.agg #[.int .i64 0, .int .i64 0, .int .i64 0, .string ⟨#[]⟩, .string ⟨#[]⟩, .int .i64 0, .int .i64 0, .string ⟨#[]⟩, .int .i64 0, .int .i64 0, .slice none 0 0]), 11, 128) := by kernel_rfl
theorem infoIntL : (Tryd.prog.info? 3).map (fun i => (i.zero, i.size, i.bytes)) = some (some (.int .i64 0), 1, 8) := by kernel_rfl
theorem infoPro : (Tryd.prog.info? 46).map (fun i => (i.zero, i.size, i.bytes)) = some (some (.agg #[.int .i64 0, .slice none 0 0]), 2, 32) := by kernel_rfl
theorem make_code (n : Nat) (hn : n ≤ 20000) (w : World) : (Instr.makeSlice 44 (.int .i64 n) (.int .i64 n)).run Tryd.prog w = .ok (.slice (some ⟨w.heap.size, 0, none⟩) n n) (w.alloc (.cells (flatI (List.replicate n zI)).toArray 51)) := by
  obtain ⟨i0, hinf, hz0, hz1, hz2⟩ := info_parts infoIns
  have := run_makeSlice (P := Tryd.prog) w 44 51 i0 (.agg #[.int .i64 0, .int .i64 0, .int .i64 0, .string ⟨#[]⟩, .string ⟨#[]⟩, .int .i64 0, .int .i64 0, .string ⟨#[]⟩, .int .i64 0, .int .i64 0, .slice none 0 0]) Tryd.underlying44 hinf hz0 .i64 .i64 n n (by omega) (Int.le_refl _) (by rw [hz1]; simp; omega) (by rw [hz2]; omega) (by omega)
  rw [hz1] at this
  rw [← made_code]
  simpa [Value.cells] using this
end Go.Proofs.YtdnbingddbakaaaDoor
