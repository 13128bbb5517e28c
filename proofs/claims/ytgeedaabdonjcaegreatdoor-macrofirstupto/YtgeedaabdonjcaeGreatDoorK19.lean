/- Package rule set: what a pattern's variables meet, in memory. -/
import Derived.Test.YtgeedaabdonjcaeGreatDoorK13
import Derived.Test.YtgeedaabdonjcaeGreatDoorK18
import Derived.Deep.AppendLies
import Derived.Deep.RegionLaw
namespace Go.Proofs.YtgeedaabdonjcaeGreatDoor
set_option linter.unusedVariables false
set_option linter.unusedSimpArgs false
open Go.RowKit Go.Maps Go.WideMaps

def heldR (v : Value) : Option (DataW Value × List MemPlace) := some (.held v, [])
theorem zeroS (w : World) : (zeroValue 26).run Tryz.prog w = .ok (.slice none 0 0) w := by kernel_rfl

/-- Block b is a map of at most n entries, from texts to values: f. -/
def MapV (b n : Nat) (f : ByteArray → Value) (w : World) : Prop :=
  ∃ D : DataW Value, w.ownsMap Tryz.prog 9 heldR b n D ∧ Maps.IsMap D ∧ ∀ s : ByteArray, D.atKey (.string s.data.toList) (.held (.slice none 0 0)) = .held (f s)
theorem MapV.made (w : World) : MapV w.heap.size 0 (fun _ => .slice none 0 0) (w.alloc (.map #[] 0)) :=
  ⟨.map [], World.ownsMap_made _ _ _ _, Maps.isMap_empty, fun s => rfl⟩
theorem MapV.lt {b n : Nat} {f : ByteArray → Value} {w : World} (h : MapV b n f w) : b < w.heap.size := by
  obtain ⟨D, h, _⟩ := h
  exact h.lt
theorem MapV.kept {b n : Nat} {f : ByteArray → Value} {w w' : World} (h : MapV b n f w) (hw : w'.heap[b]? = w.heap[b]?) : MapV b n f w' := by
  obtain ⟨D, ⟨es, clock, hb, F, hs, hD⟩, h2, h3⟩ := h
  exact ⟨D, ⟨es, clock, hw.trans hb, F, hs, hD⟩, h2, h3⟩
theorem MapV.mono {b n n' : Nat} {f : ByteArray → Value} {w : World} (h : MapV b n f w) (hn : n ≤ n') : MapV b n' f w := by
  obtain ⟨D, h1, h2⟩ := h
  exact ⟨D, h1.mono hn, h2⟩
theorem MapV.run {b n : Nat} {f : ByteArray → Value} {w : World} (h : MapV b n f w) (s : ByteArray) (hs : s.size ≤ maxLen) :
    (Instr.lookup 69 (.map (some b)) (.string s) false).run Tryz.prog w = .ok (f s) w := by
  obtain ⟨D, h1, h2, h3⟩ := h
  obtain ⟨v, ps, hrun, hv⟩ := h1.lookup lawS Tryz.underlying69 (zeroS w) (zd := .held (.slice none 0 0)) (zp := []) rfl (keyOf_string_mk Tryz.underlying9 hs)
  rw [h3 s] at hv
  have e : v = f s := by
    unfold heldR at hv
    simp at hv
    exact hv.1
  rw [← e]
  exact hrun
theorem MapV.update {b n : Nat} {f : ByteArray → Value} {w : World} (h : MapV b n f w) (hn : n < maxLen) (s : ByteArray) (hs : s.size ≤ maxLen) (v : Value) :
    ∃ w', (Instr.mapUpdate 69 (.map (some b)) (.string s) v).run Tryz.prog w = .ok () w' ∧ MapV b (n + 1) (fun t => if t = s then v else f t) w' ∧ w.grownBy w' (some b) := by
  obtain ⟨D, h1, h2, h3⟩ := h
  have hkey := keyOf_string_mk (P := Tryz.prog) Tryz.underlying9 hs
  obtain ⟨w', hrun, hown, hg⟩ := h1.update lawS Tryz.underlying69 hn hkey (val := v) (d := .held v) (ps := []) rfl
  refine ⟨w', hrun, ⟨_, hown, h2.put _ _, fun t => ?_⟩, hg⟩
  have hkl : WideAt.IsKeyLit (.string s.data.toList) := lawS.key hkey
  by_cases e : t = s
  · subst e
    rw [atKey_put_same h2 hkl]
    simp
  · have hne : (Lit.string t.data.toList) ≠ .string s.data.toList := fun h => e (ba_eq (by simpa using h))
    rw [atKey_put_other hne, h3 t]
    simp [e]

/-- What a pattern that is held against a form touches: the map, and rows that the map holds; o: which these are. -/
structure Fr (mb : Nat) (o o' : Nat → Prop) (w w' : World) : Prop where
  os : w'.os = w.os
  tape : w'.tape = w.tape
  output : w'.output = w.output
  size : w.heap.size ≤ w'.heap.size
  same : ∀ k, k < w.heap.size → k ≠ mb → ¬ o k → w'.heap[k]? = w.heap[k]?
  fresh : ∀ k, o' k → o k ∨ w.heap.size ≤ k
theorem Fr.refl (mb : Nat) (o : Nat → Prop) (w : World) : Fr mb o o w w := ⟨rfl, rfl, rfl, Nat.le_refl _, fun _ _ _ _ => rfl, fun _ h => .inl h⟩
theorem Fr.trans {mb : Nat} {o p q : Nat → Prop} {a b c : World} (h : Fr mb o p a b) (k : Fr mb p q b c) : Fr mb o q a c :=
  ⟨k.os.trans h.os, k.tape.trans h.tape, k.output.trans h.output, Nat.le_trans h.size k.size,
   fun i hi hm ho => (k.same i (Nat.lt_of_lt_of_le hi h.size) hm (fun hp => by rcases h.fresh i hp with q | q; exact ho q; omega)).trans (h.same i hi hm ho),
   fun i hi => by
     rcases k.fresh i hi with q | q
     · exact h.fresh i q
     · exact .inr (Nat.le_trans h.size q)⟩
theorem Fr.of_below {mb : Nat} {o : Nat → Prop} {a b : World} (h : Below a.heap.size a b) : Fr mb o o a b :=
  ⟨h.os, h.tape, h.output, h.size, fun k hk _ _ => h.block k hk, fun _ h => .inl h⟩
theorem Fr.below {mb B : Nat} {o o' : Nat → Prop} {a b : World} (h : Fr mb o o' a b) (ho : ∀ k, o k → mb < k) (hB : B ≤ mb) (hs : B ≤ a.heap.size) : Below B a b :=
  ⟨h.os, h.tape, h.output, h.size, fun k hk => h.same k (by omega) (by omega) (fun q => by have := ho k q; omega)⟩

/-- What the variables met: m. -/
def Met (mb B g L : Nat) (m : ByteArray → List Dat) (o : Nat → Prop) (w : World) : Prop :=
  ∃ (f : ByteArray → Value) (E : ByteArray → List (Dat × Option Addr × Nat)), MapV mb L f w ∧ (∀ s, (E s).map (·.1) = m s) ∧ (∀ s, w.ownsRow (mb + 1) 28 6 (f s) (E s).length (flat (E s))) ∧
    (∀ s, ∀ e ∈ E s, e.1.name.size ≤ maxLen ∧ e.1.kids.length ≤ e.2.2 ∧ LC B w g e.2.1 e.1.kids) ∧ (∀ s t k, s ≠ t → (f s).ownBlock = some k → (f t).ownBlock ≠ some k) ∧ (∀ s, (E s).length ≤ L) ∧ ∀ k, o k ↔ ∃ s, (f s).ownBlock = some k

theorem Met.lt {mb B g L : Nat} {m : ByteArray → List Dat} {o : Nat → Prop} {w : World} (h : Met mb B g L m o w) : mb < w.heap.size := by
  obtain ⟨f, E, h1, _⟩ := h
  exact h1.lt
theorem Met.own {mb B g L : Nat} {m : ByteArray → List Dat} {o : Nat → Prop} {w : World} (h : Met mb B g L m o w) {k : Nat} (ho : o k) : mb < k ∧ k < w.heap.size := by
  obtain ⟨f, E, h1, h2, h3, h4, h5, h6, h7⟩ := h
  obtain ⟨s, hs⟩ := (h7 k).1 ho
  have := (h3 s).lt k hs
  exact ⟨by omega, by omega⟩
theorem Met.below {mb B g L : Nat} {m : ByteArray → List Dat} {o : Nat → Prop} {w w' : World} (h : Met mb B g L m o w) (hB : B ≤ w.heap.size) (hb : Below w.heap.size w w') : Met mb B g L m o w' := by
  obtain ⟨f, E, h1, h2, h3, h4, h5, h6, h7⟩ := h
  refine ⟨f, E, h1.kept (hb.block _ h1.lt), h2, fun s => (h3 s).kept (row := none) ⟨hb.os, hb.tape, hb.output, hb.size, fun k hk _ => hb.block k hk⟩ (by cases hv : (f s).ownBlock <;> simp), fun s e he => ?_, h5, h6, h7⟩
  obtain ⟨q1, q2, q3⟩ := h4 s e he
  exact ⟨q1, q2, q3.below (hb.mono hB)⟩
theorem Met.mono {mb B g L L' : Nat} {m : ByteArray → List Dat} {o : Nat → Prop} {w : World} (h : Met mb B g L m o w) (hL : L ≤ L') : Met mb B g L' m o w := by
  obtain ⟨f, E, h1, h2, h3, h4, h5, h6, h7⟩ := h
  exact ⟨f, E, h1.mono hL, h2, h3, h4, h5, fun s => Nat.le_trans (h6 s) hL, h7⟩
theorem Met.made (w : World) (B g : Nat) : Met w.heap.size B g 0 (fun _ => []) (fun _ => False) (w.alloc (.map #[] 0)) :=
  ⟨fun _ => .slice none 0 0, fun _ => [], MapV.made w, fun _ => rfl, fun _ => World.ownsRow_nil _ _ _ _, fun _ _ h => (by cases h), fun _ _ _ _ h => (by cases h), fun _ => Nat.le_refl _, fun k => ⟨fun h => h.elim, fun ⟨_, h⟩ => (by cases h)⟩⟩

/-- One more is met. -/
theorem Met.put {mb B g L : Nat} {o : Nat → Prop} {W w3 w4 : World} {f : ByteArray → Value} {E : ByteArray → List (Dat × Option Addr × Nat)} {nm : ByteArray} {d : Dat} {da : Option Addr} {dc gg cap : Nat}
    (hB : B ≤ mb) (h1 : MapV mb L f W) (h3 : ∀ s, W.ownsRow (mb + 1) 28 6 (f s) (E s).length (flat (E s))) (h4 : ∀ s, ∀ e ∈ E s, e.1.name.size ≤ maxLen ∧ e.1.kids.length ≤ e.2.2 ∧ LC B W g e.2.1 e.1.kids)
    (h5 : ∀ s t k, s ≠ t → (f s).ownBlock = some k → (f t).ownBlock ≠ some k) (h6 : ∀ s, (E s).length ≤ L) (h7 : ∀ k, o k ↔ ∃ s, (f s).ownBlock = some k)
    (hdn : d.name.size ≤ maxLen) (hdc : d.kids.length ≤ dc) (hd : LC B W g da d.kids)
    (hown : w3.ownsRow (mb + 1) 28 6 (.slice (some ⟨gg, 0, none⟩) ((E nm).length + 1) cap) ((E nm).length + 1) (flat (E nm) ++ [.int .i64 d.kind, .int .i64 d.n, .string d.name, .int .i64 d.stamp, .int .i64 d.lib, .slice da d.kids.length dc]))
    (hg3 : W.grownBy w3 (f nm).ownBlock) (hat : (f nm).ownBlock = some gg ∨ W.heap.size ≤ gg) (hm4 : MapV mb (L + 1) (fun t => if t = nm then .slice (some ⟨gg, 0, none⟩) ((E nm).length + 1) cap else f t) w4) (hg4 : w3.grownBy w4 (some mb)) :
    ∃ o', Fr mb o o' W w4 ∧ Met mb B g (L + 1) (putM (fun s => (E s).map (·.1)) nm d) o' w4 := by
  have hmb := h1.lt
  have own_lt : ∀ s k, (f s).ownBlock = some k → mb + 1 ≤ k ∧ k < W.heap.size := fun s k h => (h3 s).lt k h
  have hnm : ∀ k, some k = (f nm).ownBlock → mb < k := fun k h => by have := own_lt nm k h.symm; omega
  have same34 : ∀ k, k < W.heap.size → k ≠ mb → (f nm).ownBlock ≠ some k → w4.heap[k]? = W.heap[k]? := fun k hk hm hn => (hg4.block k (Nat.lt_of_lt_of_le hk hg3.size) (by simpa using hm)).trans (hg3.block k hk (fun e => hn e.symm))
  have hgm : gg ≠ mb := by
    rcases hat with q | q
    · have := own_lt nm gg q; omega
    · omega
  refine ⟨fun k => ∃ s, ((fun t => if t = nm then Value.slice (some ⟨gg, 0, none⟩) ((E nm).length + 1) cap else f t) s).ownBlock = some k, ⟨hg4.os.trans hg3.os, hg4.tape.trans hg3.tape, hg4.output.trans hg3.output, Nat.le_trans hg3.size hg4.size, fun k hk hm ho => same34 k hk hm (fun e => ho ((h7 k).2 ⟨nm, e⟩)), fun k hk => ?_⟩, ?_⟩
  · obtain ⟨s, hs⟩ := hk
    by_cases e : s = nm
    · simp only [if_pos e] at hs
      have hk : gg = k := by simpa [Value.ownBlock] using hs
      subst hk
      rcases hat with q | q
      · exact .inl ((h7 gg).2 ⟨nm, q⟩)
      · exact .inr q
    · simp only [if_neg e] at hs
      exact .inl ((h7 k).2 ⟨s, hs⟩)
  · refine ⟨fun t => if t = nm then .slice (some ⟨gg, 0, none⟩) ((E nm).length + 1) cap else f t, fun t => if t = nm then E t ++ [(d, da, dc)] else E t, hm4, fun s => ?_, fun s => ?_, fun s e he => ?_, fun s t k hst hs => ?_, fun s => ?_, fun k => ?_⟩
    · unfold putM
      by_cases e : s = nm
      · simp [e]
      · simp [e]
    · by_cases e : s = nm
      · subst e
        simp only [if_true]
        have e1 : flat (E s ++ [(d, da, dc)]) = flat (E s) ++ [.int .i64 d.kind, .int .i64 d.n, .string d.name, .int .i64 d.stamp, .int .i64 d.lib, .slice da d.kids.length dc] := by simp [flat]
        rw [e1, List.length_append]
        exact hown.kept hg4 (Or.inr (by
          show some gg ≠ some mb
          simpa using hgm))
      · simp only [if_neg e]
        have hr3 : w3.ownsRow (mb + 1) 28 6 (f s) (E s).length (flat (E s)) := (h3 s).kept hg3 (by
          cases hv : (f s).ownBlock with
          | none => exact Or.inl rfl
          | some k => exact Or.inr (fun q => h5 s nm k e hv q.symm))
        exact hr3.kept hg4 (by
          cases hv : (f s).ownBlock with
          | none => exact Or.inl rfl
          | some k => exact Or.inr (fun q => by have := own_lt s k hv; cases q; omega))
    · have hO : Old B W w4 := fun k hk => same34 k (by omega) (by omega) (fun e => by have := own_lt nm k e; omega)
      have old : ∀ s, e ∈ E s → e.1.name.size ≤ maxLen ∧ e.1.kids.length ≤ e.2.2 ∧ LC B w4 g e.2.1 e.1.kids := fun s he => by
        obtain ⟨q1, q2, q3⟩ := h4 s e he
        exact ⟨q1, q2, q3.stay hO⟩
      by_cases e' : s = nm
      · simp only [if_pos e'] at he
        rcases List.mem_append.1 he with he | he
        · exact old s he
        · rw [List.mem_singleton] at he
          subst he
          exact ⟨hdn, hdc, hd.stay hO⟩
      · simp only [if_neg e'] at he
        exact old s he
    · by_cases es : s = nm
      · simp only [if_pos es] at hs
        have hk : gg = k := by simpa [Value.ownBlock] using hs
        subst hk
        have et : ¬ t = nm := fun e => hst (es.trans e.symm)
        simp only [if_neg et]
        intro q
        rcases hat with p | p
        · exact h5 t nm gg et q p
        · have := own_lt t gg q
          omega
      · simp only [if_neg es] at hs
        by_cases et : t = nm
        · simp only [if_pos et]
          intro q
          have hk : gg = k := by simpa [Value.ownBlock] using q
          subst hk
          rcases hat with p | p
          · exact h5 s nm gg es hs p
          · have := own_lt s gg hs
            omega
        · simp only [if_neg et]
          exact h5 s t k hst hs
    · have := h6 s
      by_cases e : s = nm
      · simp [e]
        exact h6 nm
      · simp [e]
        omega
    · exact Iff.rfl
end Go.Proofs.YtgeedaabdonjcaeGreatDoor
