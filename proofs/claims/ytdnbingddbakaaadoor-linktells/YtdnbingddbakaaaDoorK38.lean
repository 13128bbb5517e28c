/- Chapter 10, plainly: what stands ahead stays. A map of one's own from globals to truths; no global stands twice. -/
import Derived.Test.YtdnbingddbakaaaDoorK26
import Derived.Test.YtdnbingddbakaaaDoorK37
namespace Go.Proofs.YtdnbingddbakaaaDoor
section
set_option linter.unusedVariables false
set_option linter.unusedSimpArgs false
open Go.RowKit

theorem addG_ahead (gs : List Gl) (s : Gl) : ∃ ex, addG gs s = gs ++ ex := by
  unfold addG
  split
  · exact ⟨[], by simp⟩
  · exact ⟨[s], rfl⟩
theorem defGs_ahead : ∀ (xs : List In) (gs : List Gl), ∃ ex, defGs gs xs = gs ++ ex
  | [], gs => ⟨[], by simp [defGs]⟩
  | x :: r, gs => by
    have e : defGs gs (x :: r) = defGs (defG gs x) r := rfl
    obtain ⟨e1, h1⟩ : ∃ ex, defG gs x = gs ++ ex := by
      unfold defG
      split
      · exact addG_ahead gs _
      · exact ⟨[], by simp⟩
    obtain ⟨e2, h2⟩ := defGs_ahead r (defG gs x)
    exact ⟨e1 ++ e2, by rw [e, h2, h1, List.append_assoc]⟩
theorem allI_app (a b : List Un) : allI (a ++ b) = allI a ++ allI b := by simp [allI]
theorem defAll_app (us more : List Un) : defAll (us ++ more) (us ++ more).length = defGs (defAll us us.length) (allI more) := by
  unfold defAll
  rw [List.take_length, List.take_length, allI_app, defGs_app]
theorem place_same {gs gs' : List Gl} {x : In} (h : x.op = 5 ∨ x.op = 12 ∨ x.op = 13 → idxG gs' (x.lib, x.own) = idxG gs (x.lib, x.own)) (st : Nat) : placeI gs' st x = placeI gs st x := by
  unfold placeI
  by_cases h5 : x.op = 5 ∨ x.op = 12 ∨ x.op = 13
  · rw [h h5]
  · rw [if_neg h5, if_neg h5]
theorem imgS_same {gs gs' : List Gl} : ∀ (us : List Un), (∀ x ∈ allI us, ∀ st, placeI gs' st x = placeI gs st x) → ∀ acc, us.foldl (imgStep gs') acc = us.foldl (imgStep gs) acc
  | [], _, acc => rfl
  | u :: r, h, acc => by
    rw [List.foldl_cons, List.foldl_cons]
    have e : imgStep gs' acc u = imgStep gs acc u := by
      unfold imgStep
      have : u.2.map (placeP gs' acc.1.length) = u.2.map (placeP gs acc.1.length) := List.map_congr_left fun P hP => by
        unfold placeP
        have : P.code.map (placeI gs' acc.1.length) = P.code.map (placeI gs acc.1.length) := List.map_congr_left fun x hx => h x (by simp only [allI, List.mem_flatMap]; exact ⟨u, by simp, P, hP, hx⟩) _
        rw [this]
      rw [this]
    rw [e]
    exact imgS_same r (fun x hx st => h x (by rw [show u :: r = [u] ++ r from rfl, allI_app]; exact List.mem_append_right _ hx) st) _
theorem imgS_more (gs : List Gl) : ∀ (us : List Un) (acc : List Pro × List Int), ∃ qs, (us.foldl (imgStep gs) acc).1 = acc.1 ++ qs
  | [], acc => ⟨[], by simp⟩
  | u :: r, acc => by
    obtain ⟨qs, hq⟩ := imgS_more gs r (imgStep gs acc u)
    rw [List.foldl_cons, hq]
    exact ⟨u.2.map (placeP gs acc.1.length) ++ qs, by simp [imgStep]⟩
theorem linkF_ok {us : List Un} (h : (linkF us).1 = 0) : us.length ≤ 40 ∧ (fstF (unitE us) 0 us.length).1 = 0 ∧ (defAll us us.length).length ≤ 500 ∧ (fstF (unitU (defAll us us.length) us) 0 us.length).1 = 0 := by
  unfold linkF at h
  by_cases h1 : 40 < us.length
  · rw [if_pos h1] at h; simp at h
  rw [if_neg h1] at h
  by_cases h2 : (fstF (unitE us) 0 us.length).1 = 0
  · rw [if_pos h2] at h
    by_cases h3 : 500 < (defAll us us.length).length
    · rw [if_pos h3] at h; simp at h
    · rw [if_neg h3] at h
      by_cases h4 : (fstF (unitU (defAll us us.length) us) 0 us.length).1 = 0
      · exact ⟨by omega, h2, by omega, h4⟩
      · rw [if_neg h4] at h; exact absurd h h4
  · rw [if_neg h2] at h; exact absurd h h2
/-- Each global that linked units speak of has a number. -/
theorem link_known {us : List Un} (h : (linkF us).1 = 0) {x : In} (hx : x ∈ allI us) (ho : x.op = 5 ∨ x.op = 12 ∨ x.op = 13) : ∃ i, idxG (defAll us us.length) (x.lib, x.own) = some i := by
  obtain ⟨_, _, _, h4⟩ := linkF_ok h
  by_cases h13 : x.op = 13
  · obtain ⟨k, hk⟩ := List.mem_iff_getElem?.1 hx
    obtain ⟨i, hi, _⟩ := def_number hk h13
    refine ⟨i, ?_⟩
    unfold defAll
    rw [List.take_length]
    exact hi
  · unfold allI at hx
    obtain ⟨u, hu, hxu⟩ := List.mem_flatMap.1 hx
    obtain ⟨j, hj⟩ := List.mem_iff_getElem?.1 hu
    have h5 := fstF_zero us.length 0 h4 j (Nat.zero_le _) (by have := (List.getElem?_eq_some_iff.1 hj).1; omega)
    rw [unitU_at hj] at h5
    unfold useU at h5
    obtain ⟨k, hk⟩ := List.mem_iff_getElem?.1 hxu
    have h6 := fstE_zero _ 0 h5 k (Nat.zero_le _) (by have := (List.getElem?_eq_some_iff.1 hk).1; omega)
    rw [insU_at hk] at h6
    unfold useE at h6
    rw [if_pos (by omega)] at h6
    by_cases h7 : (idxG (defAll us us.length) (x.lib, x.own)).isSome = true
    · exact Option.isSome_iff_exists.1 h7
    · rw [if_neg h7] at h6; simp at h6
/-- WHAT STANDS AHEAD STAYS. -/
theorem link_ahead {us more : List Un} (h : (linkF us).1 = 0) : (∃ ex, defAll (us ++ more) (us ++ more).length = defAll us us.length ++ ex) ∧
    ∃ qs, (imgS (defAll (us ++ more) (us ++ more).length) (us ++ more)).1 = (imgS (defAll us us.length) us).1 ++ qs := by
  refine ⟨?_, ?_⟩
  · rw [defAll_app]; exact defGs_ahead _ _
  · have e : imgS (defAll (us ++ more) (us ++ more).length) us = imgS (defAll us us.length) us := by
      unfold imgS
      refine imgS_same us (fun x hx st => place_same (fun ho => ?_) st) _
      obtain ⟨i, hi⟩ := link_known h hx ho
      rw [hi, defAll_app]
      exact idxG_def _ _ _ _ hi
    have e2 : imgS (defAll (us ++ more) (us ++ more).length) (us ++ more) = more.foldl (imgStep (defAll (us ++ more) (us ++ more).length)) (imgS (defAll (us ++ more) (us ++ more).length) us) := by
      unfold imgS
      rw [List.foldl_append]
    rw [e2, e]
    exact imgS_more _ _ _
theorem PL.ahead {B : Nat} {w : World} {a : Option Addr} {l r : List Pro} (h : PL B w a (l ++ r)) : PL B w a l := by
  rcases h with h | ⟨b, o, ha, hb, h⟩
  · simp at h; exact Or.inl h.1
  · exact Or.inr ⟨b, o, ha, hb, fun i p hp => h i p (by rw [List.getElem?_append_left (List.getElem?_eq_some_iff.1 hp).1]; exact hp)⟩
theorem flatP_atY : ∀ (l : List PE) (i r : Nat) (e : PE), l[i]? = some e → r < 2 → (flatP l)[i * 2 + r]? = e.cells[r]?
  | [], i, r, e, h, _ => by simp at h
  | x :: t, 0, r, e, h, hr => by
    simp at h
    subst h
    rw [flatP_cons, Nat.zero_mul, Nat.zero_add, List.getElem?_append_left (by simp [PE.cells]; exact hr)]
  | x :: t, i + 1, r, e, h, hr => by
    simp at h
    rw [flatP_cons, List.getElem?_append_right (by simp [PE.cells]; omega), show x.cells.length = 2 from rfl, show (i + 1) * 2 + r - 2 = i * 2 + r by omega]
    exact flatP_atY t i r e h hr
/-- An image's procedures, as procedures in memory. -/
theorem image_pl {w : World} {base : Nat} {ok : Nat → Prop} {pv : Value} {ps : List PE} (h : w.ownsRow base 46 2 pv ps.length (flatP ps)) (hok : ∀ p ∈ ps, p.Ok ok w) (hw : ∀ b, ok b → b < w.heap.size) :
    ∃ pa pc, pv = .slice pa ps.length pc ∧ ps.length ≤ pc ∧ PL w.heap.size w pa (ps.map PE.pro) := by
  by_cases h0 : ps = []
  · obtain ⟨pa, pc, h1, h2⟩ := own_slice h
    exact ⟨pa, pc, h1, h2, Or.inl (by rw [h0]; rfl)⟩
  · obtain ⟨g, pc, h1, h2, _, h4, _, h6⟩ := own_at h (List.length_pos_iff.2 h0)
    refine ⟨_, pc, h1, h2, Or.inr ⟨g, 0, rfl, h4, fun i p hp => ?_⟩⟩
    rw [List.getElem?_map] at hp
    obtain ⟨e, he, rfl⟩ := Option.map_eq_some_iff.1 hp
    obtain ⟨k1, k2, k3⟩ := hok e (List.mem_of_getElem? he)
    refine ⟨e.a, e.c, ?_, ?_, by simpa [PE.pro] using k1, ?_⟩
    · rw [Nat.zero_add]
      exact h6 (i * 2) _ ((flatP_atY ps i 0 e he (by decide)).trans rfl)
    · rw [Nat.zero_add]
      refine h6 (i * 2 + 1) _ ((flatP_atY ps i 1 e he (by decide)).trans ?_)
      simp [PE.cells, PE.pro]
    · rcases k2 with k2 | ⟨b, ha, hb, k2⟩
      · exact Or.inl (by simp [PE.pro, k2])
      · refine Or.inr ⟨b, 0, ha, hw b hb, fun k x hx => ?_⟩
        simp only [PE.pro] at hx
        rw [List.getElem?_map] at hx
        obtain ⟨y, hy, rfl⟩ := Option.map_eq_some_iff.1 hx
        obtain ⟨l1, l2, l3, l4, f, l5⟩ := k3 y (List.mem_of_getElem? hy)
        have c : ∀ r, r < 11 → w.cell? ⟨b, 0 + k * 11 + r, none⟩ = y.cells[r]? := fun r hr => by
          have h1 := flatI_at e.es k r y hy hr
          have h2 : r < y.cells.length := by rw [IE.len]; exact hr
          rw [List.getElem?_eq_getElem h2] at h1 ⊢
          rw [Nat.zero_add]
          exact k2 _ _ h1
        refine ⟨y.qa, y.qc, c 0 (by decide), c 1 (by decide), c 2 (by decide), c 3 (by decide), c 4 (by decide), c 5 (by decide), c 6 (by decide), c 7 (by decide), c 8 (by decide), c 9 (by decide), c 10 (by decide), l1, l2, l3, l4, f, ?_⟩
        exact Dc.stay (fun _ _ => rfl) hw f _ _ l5
end
section
set_option linter.unusedVariables false
set_option linter.unusedSimpArgs false
open Go.RowKit Go.Maps Go.WideMaps

def bval (s : Gl) : Value := .agg #[.string ⟨#[]⟩, .string s.1, .string s.2]
theorem wideB : (match Tryd.prog.underlying 40 with | some (.array _ _) | some (.struct _) => true | _ => false) = true := by kernel_rfl
theorem row40 : (40 : TypeId) < Tryd.prog.types.size := of_decide_eq_true (by kernel_rfl)
set_option maxRecDepth 100000 in
theorem lawB0 : KeyLaw Tryd.prog 40 := deep_law_laid laidOut (m := 3) (by omega) row40 (by kernel_rfl) wideB
theorem lawB : Keyed Tryd.prog 40 := Keyed.of_law lawB0
theorem kt40 : Tryd.prog.keyType 40 = true := by kernel_rfl
theorem ce40 : Tryd.prog.cellsOf 40 = 3 := by kernel_rfl
theorem keyB (s : Gl) (h : smG s) : ∃ l, keyOf Tryd.prog 40 (bval s) = some l := by
  obtain ⟨a, b⟩ := s
  obtain ⟨ha, hb⟩ := h
  simp only at ha hb
  obtain ⟨m, hm⟩ := sizeP
  unfold keyOf bval
  rw [hm]
  have hf : (Value.agg #[.string ⟨#[]⟩, .string a, .string b]).formed Tryd.prog 40 = true := by
    simp [Value.formed, Tryd.underlying40, ce40]
  have e0 : Tryd.prog.keyLits (m + 1) 9 [.string ⟨#[]⟩] = some [.string []] := by simp [Program.keyLits, Tryd.underlying9, show (⟨#[]⟩ : ByteArray).size ≤ maxLen from Nat.zero_le _]
  have e1 : Tryd.prog.keyLits (m + 1) 9 [.string a] = some [.string a.data.toList] := by simp [Program.keyLits, Tryd.underlying9, ha]
  have e2 : Tryd.prog.keyLits (m + 1) 9 [.string b] = some [.string b.data.toList] := by simp [Program.keyLits, Tryd.underlying9, hb]
  have e3 : Tryd.prog.keyLits (m + 1 + 1) 40 [.string ⟨#[]⟩, .string a, .string b] = some [.string [], .string a.data.toList, .string b.data.toList] := by
    rw [Program.keyLits.eq_def]
    simp [Tryd.underlying40, ce40, ce9, e0, e1, e2]
  simp [Tryd.underlying40, kt40, hf, Value.cells, e3]
/-- Block b is a map of at most n globals, to truths. -/
def MapH (b n : Nat) (g : Gl → Bool) (w : World) : Prop :=
  ∃ D : DataW Unit, w.ownsMap Tryd.prog 40 (plainElem Tryd.prog 4) b n D ∧ Maps.IsMap D ∧
    ∀ (s : Gl) (l : Lit), keyOf Tryd.prog 40 (bval s) = some l → D.atKey l (.lit (.bool false)) = .lit (.bool (g s))
theorem MapH.made (w : World) : MapH w.heap.size 0 (fun _ => false) (w.alloc (.map #[] 0)) :=
  ⟨.map [], World.ownsMap_made _ _ _ _, Maps.isMap_empty, fun s l _ => rfl⟩
theorem MapH.lt {b n : Nat} {g : Gl → Bool} {w : World} (h : MapH b n g w) : b < w.heap.size := by
  obtain ⟨D, h, _⟩ := h
  exact h.lt
theorem MapH.kept {b n : Nat} {g : Gl → Bool} {w w' : World} (h : MapH b n g w) (hw : w'.heap[b]? = w.heap[b]?) : MapH b n g w' := by
  obtain ⟨D, ⟨es, clock, hb, F, hs, hD⟩, h2, h3⟩ := h
  exact ⟨D, ⟨es, clock, hw.trans hb, F, hs, hD⟩, h2, h3⟩
theorem MapH.congr {b n : Nat} {g g' : Gl → Bool} {w : World} (h : MapH b n g w) (e : ∀ s, g' s = g s) : MapH b n g' w := by
  obtain rfl : g' = g := funext e
  exact h
set_option maxRecDepth 100000 in
theorem MapH.look {b n : Nat} {g : Gl → Bool} {w : World} (h : MapH b n g w) (s : Gl) (hs : smG s) : (Instr.lookup 38 (.map (some b)) (.agg #[.string ⟨#[]⟩, .string s.1, .string s.2]) false).run Tryd.prog w = .ok (.bool (g s)) w := by
  obtain ⟨l, hl⟩ := keyB s hs
  obtain ⟨D, ⟨es, clock, hb, F, hn, rfl⟩, h2, h3⟩ := h
  rcases Maps.fit_look false lawB Tryd.underlying38 (zeroT w) hb F hl with ⟨hrun, _, hat⟩ | ⟨e0, y, _, _, hrun, hRv, hat, _⟩
  · have := h3 s l hl
    rw [hat] at this
    have e : g s = false := by simpa using this.symm
    rw [show (Value.agg #[.string ⟨#[]⟩, .string s.1, .string s.2]) = bval s from rfl, hrun, e]
    rfl
  · obtain ⟨z, hv, hz⟩ := boolInv hRv
    have := h3 s l hl
    rw [hat, hz] at this
    have e : z = g s := by simpa using this
    rw [show (Value.agg #[.string ⟨#[]⟩, .string s.1, .string s.2]) = bval s from rfl, hrun, hv, e]
    rfl
theorem MapH.put {b n : Nat} {g : Gl → Bool} {w : World} (h : MapH b n g w) (hn : n < maxLen) (s : Gl) (hs : smG s) :
    ∃ w', (Instr.mapUpdate 38 (.map (some b)) (.agg #[.string ⟨#[]⟩, .string s.1, .string s.2]) (.bool true)).run Tryd.prog w = .ok () w' ∧ MapH b (n + 1) (fun t => if t = s then true else g t) w' ∧ w.grownBy w' (some b) := by
  obtain ⟨l, hl⟩ := keyB s hs
  obtain ⟨D, h1, h2, h3⟩ := h
  obtain ⟨w', hrun, hown, hg⟩ := h1.store lawB Tryd.underlying38 hn hl (plainElem_bool Tryd.underlying4 true)
  refine ⟨w', hrun, ⟨_, hown, h2.put _ _, fun t lt ht => ?_⟩, hg.grown⟩
  have hkl : WideAt.IsKeyLit l := lawB.key hl
  by_cases e : t = s
  · subst e
    obtain rfl := Option.some.inj (hl.symm.trans ht)
    rw [atKey_put_same h2 hkl]
    simp
  · have hne : lt ≠ l := fun h => e (by
      subst h
      have := lawB.inj ht hl
      simp [bval] at this
      exact Prod.ext this.1 this.2)
    rw [atKey_put_other hne, h3 t lt ht]
    simp [e]
theorem idxG_none : ∀ (gs : List Gl) (s : Gl), idxG gs s = none → s ∉ gs
  | [], s, _ => by simp
  | x :: r, s, h => by
    rw [idxG] at h
    by_cases e : x = s
    · rw [if_pos e] at h; simp at h
    · rw [if_neg e] at h
      have : idxG r s = none := by simpa using h
      simp only [List.mem_cons, not_or]
      exact ⟨fun c => e c.symm, idxG_none r s this⟩
theorem addG_nodup {gs : List Gl} (h : gs.Nodup) (s : Gl) : (addG gs s).Nodup := by
  unfold addG
  split
  · exact h
  · rename_i hn
    have := idxG_none gs s (by simpa using hn)
    rw [List.nodup_append]
    exact ⟨h, by simp, fun a ha b hb => by simp at hb; subst hb; exact fun e => this (e ▸ ha)⟩
theorem defGs_nodup : ∀ (xs : List In) (gs : List Gl), gs.Nodup → (defGs gs xs).Nodup
  | [], gs, h => h
  | x :: r, gs, h => by
    have e : defGs gs (x :: r) = defGs (defG gs x) r := rfl
    rw [e]
    refine defGs_nodup r _ ?_
    unfold defG
    split
    · exact addG_nodup h _
    · exact h
theorem nodup_take {α : Type} {l : List α} (h : l.Nodup) {k : Nat} {x : α} (hx : l[k]? = some x) : x ∉ l.take k := fun hm => by
  obtain ⟨i, hi⟩ := List.mem_iff_getElem?.1 hm
  rw [List.getElem?_take] at hi
  split at hi
  · rename_i hik
    obtain ⟨h1, e1⟩ := List.getElem?_eq_some_iff.1 hx
    obtain ⟨h2, e2⟩ := List.getElem?_eq_some_iff.1 hi
    exact List.pairwise_iff_getElem.1 h i k h2 h1 hik (e2.trans e1.symm)
  · simp at hi
theorem defGs_mem : ∀ (xs : List In) (gs : List Gl) (g : Gl), g ∈ defGs gs xs → g ∈ gs ∨ ∃ x ∈ xs, x.op = 13 ∧ g = (x.lib, x.own)
  | [], gs, g, h => Or.inl h
  | x :: r, gs, g, h => by
    have e : defGs gs (x :: r) = defGs (defG gs x) r := rfl
    rw [e] at h
    rcases defGs_mem r _ g h with h | ⟨y, hy, h1, h2⟩
    · unfold defG at h
      split at h
      · rename_i h13
        unfold addG at h
        split at h
        · exact Or.inl h
        · rcases List.mem_append.1 h with h | h
          · exact Or.inl h
          · simp at h
            exact Or.inr ⟨x, by simp, h13, h⟩
      · exact Or.inl h
    · exact Or.inr ⟨y, by simp [hy], h1, h2⟩
/-- What linked units define is named by short texts. -/
theorem link_short {us : List Un} (h : (linkF us).1 = 0) : ∀ g ∈ defAll us us.length, smG g := fun g hg => by
  obtain ⟨_, h2, _, _⟩ := linkF_ok h
  have hr := all_right h2
  unfold defAll at hg
  rw [List.take_length] at hg
  rcases defGs_mem _ _ g hg with hg | ⟨x, hx, h13, rfl⟩
  · simp at hg
  · unfold allI at hx
    obtain ⟨u, hu, hx⟩ := List.mem_flatMap.1 hx
    obtain ⟨P, hP, hx⟩ := List.mem_flatMap.1 hx
    obtain ⟨a, b⟩ := (hr u hu).glob hP hx (Or.inr (Or.inr h13))
    exact ⟨by show x.lib.size ≤ maxLen; unfold maxLen; omega, by show x.own.size ≤ maxLen; unfold maxLen; omega⟩
end
end Go.Proofs.YtdnbingddbakaaaDoor
