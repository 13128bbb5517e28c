/- Chapter 7: the globals in memory: looked up, and given. -/
import Derived.Test.YthooljlikllnpaaDoorK34
import Derived.Maps.OwnOps
import Derived.StringKeys
import Derived.DeepKeys4
namespace Go.Proofs.YthooljlikllnpaaDoor
set_option linter.unusedVariables false
set_option linter.unusedSimpArgs false
open Go.RowKit Go.Maps Go.WideMaps

abbrev Gl := ByteArray × ByteArray
def gval (s : Gl) : Value := .agg #[.string s.1, .string s.2]
def smG (s : Gl) : Prop := s.1.size ≤ maxLen ∧ s.2.size ≤ maxLen
theorem laidOutG : laidOutB Tryd.prog = true := by kernel_rfl
theorem wideG : (match Tryd.prog.underlying 112 with | some (.array _ _) | some (.struct _) => true | _ => false) = true := by kernel_rfl
theorem row112 : (112 : TypeId) < Tryd.prog.types.size := of_decide_eq_true (by kernel_rfl)
set_option maxRecDepth 100000 in
theorem lawG0 : KeyLaw Tryd.prog 112 := deep_law_laid laidOutG (m := 3) (by omega) row112 (by kernel_rfl) wideG
theorem lawG : Keyed Tryd.prog 112 := Keyed.of_law lawG0
theorem kt112 : Tryd.prog.keyType 112 = true := by kernel_rfl
theorem ce112 : Tryd.prog.cellsOf 112 = 2 := by kernel_rfl
theorem ce9 : Tryd.prog.cellsOf 9 = 1 := by kernel_rfl
theorem sizeP : ∃ m, Tryd.prog.types.size = m + 1 := ⟨Tryd.prog.types.size - 1, by have : 112 < Tryd.prog.types.size := row112; omega⟩
theorem keyG (s : Gl) (h : smG s) : ∃ l, keyOf Tryd.prog 112 (gval s) = some l := by
  obtain ⟨a, b⟩ := s
  obtain ⟨ha, hb⟩ := h
  simp only at ha hb
  obtain ⟨m, hm⟩ := sizeP
  unfold keyOf gval
  rw [hm]
  have hf : (Value.agg #[.string a, .string b]).formed Tryd.prog 112 = true := by
    simp [Value.formed, Tryd.underlying112, ce112]
  have e1 : Tryd.prog.keyLits (m + 1) 9 [.string a] = some [.string a.data.toList] := by simp [Program.keyLits, Tryd.underlying9, ha]
  have e2 : Tryd.prog.keyLits (m + 1) 9 [.string b] = some [.string b.data.toList] := by simp [Program.keyLits, Tryd.underlying9, hb]
  have e3 : Tryd.prog.keyLits (m + 1 + 1) 112 [.string a, .string b] = some [.string a.data.toList, .string b.data.toList] := by
    rw [Program.keyLits.eq_def]
    simp [Tryd.underlying112, ce112, ce9, e1, e2]
  simp [Tryd.underlying112, kt112, hf, Value.cells, e3]
theorem glob_none {k : Gl} : ∀ (gs : List (Gl × Val)), (∀ (i : Nat) (k' : Gl) (v : Val), gs[i]? = some (k', v) → k' ≠ k) → globF k gs = none
  | [], _ => rfl
  | (k', v) :: r, h => by
    rw [globF, if_neg (h 0 k' v rfl)]
    exact glob_none r (fun i => h (i + 1))
theorem glob_some {k : Gl} {v : Val} : ∀ (gs : List (Gl × Val)) (j : Nat), (gs.map Prod.fst).Nodup → gs[j]? = some (k, v) → globF k gs = some v
  | [], j, _, h => by simp at h
  | (k', v') :: r, 0, _, h => by
    simp at h
    rw [globF, if_pos h.1, h.2]
  | (k', v') :: r, j + 1, hn, h => by
    simp only [List.map_cons, List.nodup_cons] at hn
    have h' : r[j]? = some (k, v) := by simpa using h
    rw [globF, if_neg]
    · exact glob_some r j hn.2 h'
    · rintro rfl
      exact hn.1 (List.mem_map.2 ⟨(k', v), List.mem_of_getElem? h', rfl⟩)
theorem setG_none {k : Gl} {v : Val} : ∀ (gs : List (Gl × Val)), globF k gs = none → setG k v gs = gs ++ [(k, v)]
  | [], _ => rfl
  | (k', v') :: r, h => by
    rw [globF] at h
    by_cases e : k' = k
    · rw [if_pos e] at h; cases h
    · rw [if_neg e] at h
      rw [setG, if_neg e, setG_none r h]
      rfl
theorem setG_some {k : Gl} {v u : Val} : ∀ (gs : List (Gl × Val)) (j : Nat), (gs.map Prod.fst).Nodup → gs[j]? = some (k, u) → setG k v gs = gs.set j (k, v)
  | [], j, _, h => by simp at h
  | (k', v') :: r, 0, _, h => by
    simp at h
    rw [setG, if_pos h.1]
    rfl
  | (k', v') :: r, j + 1, hn, h => by
    simp only [List.map_cons, List.nodup_cons] at hn
    have h' : r[j]? = some (k, u) := by simpa using h
    rw [setG, if_neg]
    · rw [setG_some r j hn.2 h']
      rfl
    · rintro rfl
      exact hn.1 (List.mem_map.2 ⟨(k', u), List.mem_of_getElem? h', rfl⟩)
theorem glob_not_mem {k : Gl} : ∀ (gs : List (Gl × Val)), globF k gs = none → k ∉ gs.map Prod.fst
  | [], _ => by simp
  | (k', v') :: r, h => by
    rw [globF] at h
    by_cases e : k' = k
    · rw [if_pos e] at h; cases h
    · rw [if_neg e] at h
      simp only [List.map_cons, List.mem_cons, not_or]
      exact ⟨fun q => e q.symm, glob_not_mem r h⟩
theorem GM.find {gb : Nat} {m : Mm} {gs : List (Gl × Val)} {w : World} (h : GM gb m gs w) (k : Gl) (hk : smG k) : ∃ es clock, w.heap[gb]? = some (.map es clock) ∧ es.size = gs.length ∧
    (((Instr.findKey 112 (gval k) es.toList).run Tryd.prog w = .ok none w ∧ globF k gs = none) ∨ ∃ j v born, (Instr.findKey 112 (gval k) es.toList).run Tryd.prog w = .ok (some (j, vV m v)) w ∧ gs[j]? = some (k, v) ∧ globF k gs = some v ∧ VOk m v ∧ es[j]? = some { key := gval k, val := vV m v, born := born }) := by
  obtain ⟨es, clock, h1, h2, h4, h3⟩ := h
  refine ⟨es, clock, h1, h2, ?_⟩
  obtain ⟨l, hl⟩ := keyG k hk
  have hat : ∀ (j : Nat) (e : MapEntry), es[j]? = some e → ∃ k' v born, gs[j]? = some (k', v) ∧ VOk m v ∧ smG k' ∧ e = { key := gval k', val := vV m v, born := born } := by
    intro j e he
    have hj : j < gs.length := by rw [← h2]; exact (Array.getElem?_eq_some_iff.1 he).1
    obtain ⟨g1, g2, g3, born, g4⟩ := h3 j gs[j].1 gs[j].2 (List.getElem?_eq_getElem hj)
    refine ⟨_, _, born, List.getElem?_eq_getElem hj, g1, ⟨g2, g3⟩, ?_⟩
    rw [he] at g4
    exact Option.some.inj g4
  have hes : ∀ e ∈ es.toList, ∃ l, keyOf Tryd.prog 112 e.key = some l := by
    intro e he
    obtain ⟨j, hj, ej⟩ := List.getElem_of_mem he
    obtain ⟨k', v, born, _, _, q, rfl⟩ := hat j e (by rw [Array.getElem?_eq_getElem (by simpa using hj)]; simpa using ej)
    exact keyG k' q
  rcases lawG.find w hl es.toList hes with ⟨f1, f2⟩ | ⟨j, e, f1, f2, f3⟩
  · refine Or.inl ⟨f1, glob_none gs (fun i k' v hi e => ?_)⟩
    subst e
    obtain ⟨_, _, _, born, g4⟩ := h3 i k' v hi
    have := f2 _ (by
      have := (Array.getElem?_eq_some_iff.1 g4).1
      exact Array.mem_toList_iff.2 (Array.mem_of_getElem? g4))
    exact this rfl
  · have hej : es[j]? = some e := by simpa using f2
    obtain ⟨k', v, born, g1, g2, _, rfl⟩ := hat j e hej
    have hkk : k' = k := by
      have : gval k' = gval k := f3
      simp [gval] at this
      exact Prod.ext this.1 this.2
    subst hkk
    exact Or.inr ⟨j, v, born, f1, g1, glob_some gs j h4 g1, g2, hej⟩
theorem zero77 (w : World) : (zeroValue 77).run Tryd.prog w = .ok .nilIface w := by kernel_rfl
/-- What a global is, looked up. -/
def lookV (m : Mm) (o : Option Val) : Value := match o with | some v => .iface (vT v) (vX m v) | none => .nilIface
theorem GM.look {gb : Nat} {m : Mm} {gs : List (Gl × Val)} {w : World} (h : GM gb m gs w) (k : Gl) (hk : smG k) : (Instr.lookup 55 (.map (some gb)) (.agg #[.string k.1, .string k.2]) true).run Tryd.prog w = .ok (.tuple #[lookV m (globF k gs), .bool (globF k gs).isSome]) w := by
  obtain ⟨l, hl⟩ := keyG k hk
  obtain ⟨es, clock, h1, h2, h3⟩ := h.find k hk
  have hc := lawG.check w es.isEmpty hl
  rw [show (Value.agg #[.string k.1, .string k.2]) = gval k from rfl]
  rcases h3 with ⟨f1, f2⟩ | ⟨j, v, born, f1, f2, f3, f4, f5⟩
  · rw [f2]
    simp [Instr.lookup, run_underlying Tryd.underlying55, MapKept.run_getObj_map h1, hc, f1, zero77, Result.andThen, lookV]
  · rw [f3]
    simp [Instr.lookup, run_underlying Tryd.underlying55, MapKept.run_getObj_map h1, hc, f1, Result.andThen, lookV, vV]
theorem GM.put {gb : Nat} {m : Mm} {gs : List (Gl × Val)} {w : World} (h : GM gb m gs w) (k : Gl) (hk : smG k) (v : Val) (hv : VOk m v) :
    ∃ w', (Instr.mapUpdate 55 (.map (some gb)) (.agg #[.string k.1, .string k.2]) (.iface (vT v) (vX m v))).run Tryd.prog w = .ok () w' ∧ GM gb m (setG k v gs) w' ∧ w'.os = w.os ∧ w'.tape = w.tape ∧ w'.output = w.output ∧ w'.heap.size = w.heap.size ∧ ∀ q, q ≠ gb → w'.heap[q]? = w.heap[q]? := by
  obtain ⟨l, hl⟩ := keyG k hk
  obtain ⟨es, clock, h1, h2, h3⟩ := h.find k hk
  obtain ⟨es', clock', h1', _, h4, hall⟩ := h
  rw [h1] at h1'
  cases h1'
  have hc := lawG.check w false hl
  have hlt : gb < w.heap.size := (Array.getElem?_eq_some_iff.1 h1).1
  rw [show (Value.agg #[.string k.1, .string k.2]) = gval k from rfl]
  rcases h3 with ⟨f1, f2⟩ | ⟨j, u, born, f1, f2, f3, f4, f5⟩
  · refine ⟨{ w with heap := w.heap.setIfInBounds gb (.map (es.push { key := gval k, val := .iface (vT v) (vX m v), born := clock }) (clock + 1)) }, by simp [Instr.mapUpdate, run_underlying Tryd.underlying55, MapKept.run_getObj_map h1, hc, f1, MapKept.run_setObj_map _ h1, Result.andThen], ?_, rfl, rfl, rfl, by simp, fun q hq => by simp [Ne.symm hq]⟩
    rw [setG_none gs f2]
    refine ⟨es.push { key := gval k, val := .iface (vT v) (vX m v), born := clock }, clock + 1, by simp [hlt], by simp [h2], ?_, ?_⟩
    · rw [List.map_append]
      exact List.nodup_append.2 ⟨h4, by simp, fun a ha b hb => by simp at hb; subst hb; rintro rfl; exact glob_not_mem gs f2 ha⟩
    · intro i k' v' hi
      by_cases hil : i < gs.length
      · rw [List.getElem?_append_left hil] at hi
        obtain ⟨g1, g2, g3, born, g4⟩ := hall i k' v' hi
        exact ⟨g1, g2, g3, born, by rw [Array.getElem?_push_lt (by omega)]; rw [Array.getElem?_eq_getElem (by omega)] at g4; exact g4⟩
      · have hi2 := (List.getElem?_eq_some_iff.1 hi).1
        simp at hi2
        obtain rfl : i = gs.length := by omega
        rw [List.getElem?_append_right (Nat.le_refl _)] at hi
        simp at hi
        obtain ⟨rfl, rfl⟩ := hi
        exact ⟨hv, hk.1, hk.2, clock, by rw [← h2, Array.getElem?_push_size]; rfl⟩
  · have hst := lawG.stays w hl
    refine ⟨{ w with heap := w.heap.setIfInBounds gb (.map (es.modify j fun e => { e with key := gval k, val := .iface (vT v) (vX m v) }) clock) }, by simp [Instr.mapUpdate, run_underlying Tryd.underlying55, MapKept.run_getObj_map h1, hc, f1, f5, hst, MapKept.run_setObj_map _ h1, Result.andThen], ?_, rfl, rfl, rfl, by simp, fun q hq => by simp [Ne.symm hq]⟩
    rw [setG_some gs j h4 f2]
    refine ⟨es.modify j fun e => { e with key := gval k, val := .iface (vT v) (vX m v) }, clock, by simp [hlt], by simp [h2], ?_, ?_⟩
    · have e : (gs.set j (k, v)).map Prod.fst = gs.map Prod.fst := by
        apply List.ext_getElem?
        intro i
        rw [List.getElem?_map, List.getElem?_map, List.getElem?_set]
        by_cases hij : j = i
        · subst hij
          have := (List.getElem?_eq_some_iff.1 f2).1
          rw [if_pos rfl, if_pos this, f2]
          rfl
        · rw [if_neg hij]
      rw [e]
      exact h4
    · intro i k' v' hi
      by_cases hij : j = i
      · subst hij
        rw [List.getElem?_set_self (List.getElem?_eq_some_iff.1 f2).1] at hi
        simp at hi
        obtain ⟨rfl, rfl⟩ := hi
        refine ⟨hv, hk.1, hk.2, born, ?_⟩
        rw [Array.getElem?_modify, if_pos rfl, f5]
        rfl
      · rw [List.getElem?_set_ne hij] at hi
        obtain ⟨g1, g2, g3, born', g4⟩ := hall i k' v' hi
        refine ⟨g1, g2, g3, born', ?_⟩
        rw [Array.getElem?_modify, if_neg hij, g4]
set_option maxRecDepth 100000 in
set_option maxHeartbeats 1600000 in
/-- The key of a global that an expression names. -/
theorem globalOf_any (cb co : Nat) (lib own : ByteArray) (w : World) (k3 : w.cell? ⟨cb, co + 3, none⟩ = some (.string lib)) (k4 : w.cell? ⟨cb, co + 4, none⟩ = some (.string own)) (hcb : cb < w.heap.size) :
    Calls Tryd.prog 42 #[.pointer (some ⟨cb, co, none⟩)] w fun e w' => e = .returned (.agg #[.string lib, .string own]) ∧ Below w.heap.size w w' := by
  go_enter Tryd.func42, Tryd.ntmps42
  go_wp2_with fail
  go_region
  all_goals
    go_wp2_with fail
    exact bodyPost_ret (v := .agg #[.string lib, .string own]) (by simp [results, Tryd.results42, go_sem]) rfl ⟨rfl, by first | exact (Below.drew ((Below.refl _ _).alloc (Nat.le_refl _) _)) | exact ((Below.refl _ _).alloc (Nat.le_refl _) _).drew.setCell (Nat.le_refl _) _⟩
end Go.Proofs.YthooljlikllnpaaDoor
