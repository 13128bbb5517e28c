/- Chapter 10: what is linked, plainly; the table of globals. -/
import Derived.Test.YtdnbingddbakaaaDoorK21
import Derived.Test.YtdnbingddbakaaaDoorK12
import Derived.Test.YtdnbingddbakaaaDoorK13
import Derived.Maps.OwnOps
import Derived.Maps.OwnSet
import Derived.StringKeys
import Derived.DeepKeys4
namespace Go.Proofs.YtdnbingddbakaaaDoor
set_option linter.unusedVariables false
set_option linter.unusedSimpArgs false
open Go.RowKit Go.Maps Go.WideMaps

/-- What a global is called: its library, its own name. -/
abbrev Gl := ByteArray × ByteArray
def idxG : List Gl → Gl → Option Nat
  | [], _ => none
  | x :: r, s => if x = s then some 0 else (idxG r s).map (· + 1)
def addG (gs : List Gl) (s : Gl) : List Gl := if (idxG gs s).isSome then gs else gs ++ [s]
theorem idxG_app : ∀ (gs : List Gl) (s x : Gl), idxG (gs ++ [s]) x = match idxG gs x with | some i => some i | none => if x = s then some gs.length else none
  | [], s, x => by
    simp only [List.nil_append, idxG]
    by_cases e : s = x
    · rw [if_pos e, if_pos e.symm]; rfl
    · rw [if_neg e, if_neg (fun h => e h.symm)]; rfl
  | y :: r, s, x => by
    rw [List.cons_append, idxG, idxG, idxG_app r s x]
    by_cases e : y = x
    · rw [if_pos e, if_pos e]
    · rw [if_neg e, if_neg e]
      cases idxG r x with
      | some i => rfl
      | none =>
        by_cases e2 : x = s
        · simp [e2]
        · simp [e2]
theorem idxG_lt : ∀ (gs : List Gl) (s : Gl) (i : Nat), idxG gs s = some i → gs[i]? = some s
  | x :: r, s, i, h => by
    rw [idxG] at h
    by_cases e : x = s
    · rw [if_pos e] at h; simp at h; subst h; rw [e]; rfl
    · rw [if_neg e] at h
      cases h2 : idxG r s with
      | none => rw [h2] at h; simp at h
      | some j =>
        rw [h2] at h
        simp at h
        subst h
        exact idxG_lt r s j h2
/-- A global as a key. -/
def gval (s : Gl) : Value := .agg #[.string s.1, .string s.2]
def smG (s : Gl) : Prop := s.1.size ≤ maxLen ∧ s.2.size ≤ maxLen
theorem laidOut : laidOutB Tryd.prog = true := by kernel_rfl
theorem wideG : (match Tryd.prog.underlying 75 with | some (.array _ _) | some (.struct _) => true | _ => false) = true := by kernel_rfl
theorem row75 : (75 : TypeId) < Tryd.prog.types.size := of_decide_eq_true (by kernel_rfl)
set_option maxRecDepth 100000 in
theorem lawG0 : KeyLaw Tryd.prog 75 := deep_law_laid laidOut (m := 3) (by omega) row75 (by kernel_rfl) wideG
theorem lawG : Keyed Tryd.prog 75 := Keyed.of_law lawG0
theorem kt75 : Tryd.prog.keyType 75 = true := by kernel_rfl
theorem ce75 : Tryd.prog.cellsOf 75 = 2 := by kernel_rfl
theorem ce9 : Tryd.prog.cellsOf 9 = 1 := by kernel_rfl
theorem sizeP : ∃ m, Tryd.prog.types.size = m + 1 := ⟨174, by kernel_rfl⟩
theorem keyG (s : Gl) (h : smG s) : ∃ l, keyOf Tryd.prog 75 (gval s) = some l := by
  obtain ⟨a, b⟩ := s
  obtain ⟨ha, hb⟩ := h
  simp only at ha hb
  obtain ⟨m, hm⟩ := sizeP
  unfold keyOf gval
  rw [hm]
  have hf : (Value.agg #[.string a, .string b]).formed Tryd.prog 75 = true := by
    simp [Value.formed, Tryd.underlying75, ce75]
  have e1 : Tryd.prog.keyLits (m + 1) 9 [.string a] = some [.string a.data.toList] := by simp [Program.keyLits, Tryd.underlying9, ha]
  have e2 : Tryd.prog.keyLits (m + 1) 9 [.string b] = some [.string b.data.toList] := by simp [Program.keyLits, Tryd.underlying9, hb]
  have e3 : Tryd.prog.keyLits (m + 1 + 1) 75 [.string a, .string b] = some [.string a.data.toList, .string b.data.toList] := by
    rw [Program.keyLits.eq_def]
    simp [Tryd.underlying75, ce75, ce9, e1, e2]
  simp [Tryd.underlying75, kt75, hf, Value.cells, e3]
theorem zeroI (w : World) : (zeroValue 3).run Tryd.prog w = .ok (.int .i64 0) w := by kernel_rfl
/-- Block b is a map of at most n globals: their numbers. -/
def MapG (b n : Nat) (g : Gl → Option Nat) (w : World) : Prop :=
  ∃ D : DataW Unit, w.ownsMap Tryd.prog 75 (plainElem Tryd.prog 3) b n D ∧ Maps.IsMap D ∧
    ∀ (s : Gl) (l : Lit), keyOf Tryd.prog 75 (gval s) = some l → Maps.has D l = (g s).isSome ∧ D.atKey l (.lit (.int .i64 0)) = .lit (.int .i64 (((g s).getD 0 : Nat) : Int))
theorem MapG.made (w : World) : MapG w.heap.size 0 (fun _ => none) (w.alloc (.map #[] 0)) :=
  ⟨.map [], World.ownsMap_made _ _ _ _, Maps.isMap_empty, fun s l _ => ⟨rfl, rfl⟩⟩
theorem MapG.lt {b n : Nat} {g : Gl → Option Nat} {w : World} (h : MapG b n g w) : b < w.heap.size := by
  obtain ⟨D, h, _⟩ := h
  exact h.lt
theorem MapG.kept {b n : Nat} {g : Gl → Option Nat} {w w' : World} (h : MapG b n g w) (hw : w'.heap[b]? = w.heap[b]?) : MapG b n g w' := by
  obtain ⟨D, ⟨es, clock, hb, F, hs, hD⟩, h2, h3⟩ := h
  exact ⟨D, ⟨es, clock, hw.trans hb, F, hs, hD⟩, h2, h3⟩
theorem MapG.congr {b n : Nat} {g g' : Gl → Option Nat} {w : World} (h : MapG b n g w) (e : ∀ s, g' s = g s) : MapG b n g' w := by
  obtain rfl : g' = g := funext e
  exact h
theorem MapG.map {b n : Nat} {g : Gl → Option Nat} {w : World} (h : MapG b n g w) : ∃ es c, w.heap[b]? = some (.map es c) := by
  obtain ⟨D, ⟨es, clock, hb, _⟩, _⟩ := h
  exact ⟨es, clock, hb⟩
theorem MapG.look {b n : Nat} {g : Gl → Option Nat} {w : World} (h : MapG b n g w) (s : Gl) (hs : smG s) : (Instr.lookup 53 (.map (some b)) (.agg #[.string s.1, .string s.2]) true).run Tryd.prog w = .ok (.tuple #[.int .i64 (((g s).getD 0 : Nat) : Int), .bool (g s).isSome]) w := by
  obtain ⟨l, hl⟩ := keyG s hs
  obtain ⟨D, h1, h2, h3⟩ := h
  obtain ⟨v, ps, hrun, hv⟩ := h1.look_ok lawG Tryd.underlying53 (zeroI w) (plainElem_int Tryd.underlying3 (WalkArith.wf_i64 (by omega))) hl
  rw [(h3 s l hl).1] at hrun
  rw [(h3 s l hl).2] at hv
  obtain ⟨c, hc⟩ := plainElem_int_inv Tryd.underlying3 hv
  rw [show (Value.agg #[.string s.1, .string s.2]) = gval s from rfl, hrun]
  simp at hc
  rw [hc.1, ← hc.2.1.1]
theorem MapG.at {b n : Nat} {g : Gl → Option Nat} {w : World} (h : MapG b n g w) (s : Gl) (hs : smG s) : (Instr.lookup 53 (.map (some b)) (.agg #[.string s.1, .string s.2]) false).run Tryd.prog w = .ok (.int .i64 (((g s).getD 0 : Nat) : Int)) w := by
  obtain ⟨l, hl⟩ := keyG s hs
  obtain ⟨D, h1, h2, h3⟩ := h
  obtain ⟨c, hrun, hat, _⟩ := h1.lookup_int lawG Tryd.underlying53 Tryd.underlying3 (zeroI w) hl
  rw [(h3 s l hl).2] at hat
  have hc : c = ((g s).getD 0 : Nat) := by simpa using hat.symm
  rw [show (Value.agg #[.string s.1, .string s.2]) = gval s from rfl, hrun, hc]
theorem MapG.put {b n : Nat} {g : Gl → Option Nat} {w : World} (h : MapG b n g w) (hn : n < maxLen) (s : Gl) (hs : smG s) (i : Nat) (hi : i ≤ 9223372036854775807) :
    ∃ w', (Instr.mapUpdate 53 (.map (some b)) (.agg #[.string s.1, .string s.2]) (.int .i64 (i : Int))).run Tryd.prog w = .ok () w' ∧ MapG b (n + 1) (fun t => if t = s then some i else g t) w' ∧ w.grownBy w' (some b) := by
  obtain ⟨l, hl⟩ := keyG s hs
  obtain ⟨D, h1, h2, h3⟩ := h
  have hpe := plainElem_int (H := Unit) (P := Tryd.prog) Tryd.underlying3 (a := (i : Int)) (q := .i64) (WalkArith.wf_i64 (by omega))
  obtain ⟨w', hrun, hown, hg⟩ := h1.store lawG Tryd.underlying53 hn hl hpe
  refine ⟨w', hrun, ⟨_, hown, h2.put _ _, fun t lt ht => ?_⟩, hg.grown⟩
  have hkl : WideAt.IsKeyLit l := lawG.key hl
  by_cases e : t = s
  · subst e
    obtain rfl := Option.some.inj (hl.symm.trans ht)
    rw [has_put_same h2 hkl, atKey_put_same h2 hkl]
    simp
  · have hne : lt ≠ l := fun h => e (by
      subst h
      have := lawG.inj ht hl
      simp [gval] at this
      exact Prod.ext this.1 this.2)
    rw [has_put_other hne, atKey_put_other hne, (h3 t lt ht).1, (h3 t lt ht).2]
    simp [e]
def bcells (s : Gl) : List Value := [.string ⟨#[]⟩, .string s.1, .string s.2]
/-- THE TABLE AT WORK: box t, map m, the globals in a row. -/
structure TB (B t m : Nat) (gs : List Gl) (bv : Value) (w : World) : Prop where
  tb : w.heap[t]? = some (.cells #[bv, .map (some m)] 55 (0, 0))
  mp : MapG m gs.length (idxG gs) w
  row : w.ownsRow B 40 3 bv gs.length (gs.flatMap bcells)
  bt : B ≤ t
  bm : B ≤ m
  sm : ∀ s ∈ gs, smG s
/-- All blocks but those of tables, binds and maps are kept. -/
def Ty (w w' : World) : Prop := ∀ (k : Nat) (cs : Array Value) (t : TypeId), w.heap[k]? = some (.cells cs t (0, 0)) → t ≠ 55 → t ≠ 40 → w'.heap[k]? = some (.cells cs t (0, 0))
theorem Ty.refl (w : World) : Ty w w := fun _ _ _ h _ _ => h
theorem Ty.trans {a b c : World} (h : Ty a b) (k : Ty b c) : Ty a c := fun i cs t hi h1 h2 => k i cs t (h i cs t hi h1 h2) h1 h2
theorem Ty.below {w w' : World} (h : Below w.heap.size w w') : Ty w w' := fun k cs t hk _ _ => (h.block k (Array.getElem?_eq_some_iff.1 hk).1).trans hk
theorem TB.tm {B t m gs bv w} (h : TB B t m gs bv w) : t ≠ m := fun e => by
  obtain ⟨es, c, hm⟩ := h.mp.map
  have := h.tb
  rw [e, hm] at this
  simp at this
theorem TB.own {B t m gs bv w} (h : TB B t m gs bv w) : bv.ownBlock ≠ some t ∧ bv.ownBlock ≠ some m := by
  rcases h.row.2 with ⟨rfl, _⟩ | ⟨g, cap, cur, rfl, _, hg, _⟩
  · simp [Value.ownBlock]
  · refine ⟨fun e => ?_, fun e => ?_⟩
    · simp [Value.ownBlock] at e
      have := h.tb
      rw [← e, hg] at this
      simp at this
    · simp [Value.ownBlock] at e
      obtain ⟨es, c, hm⟩ := h.mp.map
      rw [← e, hg] at hm
      simp at hm
theorem TB.below {B t m gs bv w w'} (h : TB B t m gs bv w) (hb : Below w.heap.size w w') : TB B t m gs bv w' :=
  ⟨(hb.block _ (Array.getElem?_eq_some_iff.1 h.tb).1).trans h.tb, h.mp.kept (hb.block _ h.mp.lt), h.row.kept (row := none) ⟨hb.os, hb.tape, hb.output, hb.size, fun k h1 _ => hb.block k h1⟩ (by cases hv : bv.ownBlock <;> simp), h.bt, h.bm, h.sm⟩
theorem TB.setOther {B t m gs bv w} (h : TB B t m gs bv w) {N q : Nat} {cs : Array Value} {ty : TypeId} (hN : w.heap[N]? = some (.cells cs ty (0, 0))) (h1 : ty ≠ 55) (h2 : ty ≠ 40) (v : Value) : TB B t m gs bv (w.setCell ⟨N, q, none⟩ v) := by
  have nt : t ≠ N := fun e => by have := h.tb; rw [e, hN] at this; simp at this; exact h1 this.2
  have nm : m ≠ N := fun e => by obtain ⟨es, c, hm⟩ := h.mp.map; rw [e, hN] at hm; simp at hm
  have nr : bv.ownBlock ≠ some N := fun e => by
    rcases h.row.2 with ⟨rfl, _⟩ | ⟨g, cap, cur, rfl, _, hg, _⟩
    · simp [Value.ownBlock] at e
    · simp [Value.ownBlock] at e
      rw [e, hN] at hg
      simp at hg
      exact h2 hg.2
  have k : Keep N w (w.setCell ⟨N, q, none⟩ v) := (Keep.refl _ _).setCell _ rfl _
  exact ⟨(Below.heap_setCell _ _ _ _ nt).trans h.tb, h.mp.kept (Below.heap_setCell _ _ _ _ nm), h.row.kept k (Or.inr nr), h.bt, h.bm, h.sm⟩
theorem TB.slice {B t m gs bv w} (h : TB B t m gs bv w) : ∃ a cap, bv = .slice a gs.length cap ∧ gs.length ≤ cap := by
  rcases h.row.2 with ⟨rfl, h0⟩ | ⟨g, cap, cur, rfl, hbg, hg, hnc, _⟩
  · exact ⟨none, 0, by rw [h0], by rw [h0]; exact Nat.le_refl _⟩
  · exact ⟨some ⟨g, 0, none⟩, cap, rfl, hnc⟩
end Go.Proofs.YtdnbingddbakaaaDoor
