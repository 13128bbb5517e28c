/- Chapter 9: procedures in memory; the checker. -/
import Derived.Test.YtdnbingddbakaaaDoorK20
import Derived.Test.YtdnbingddbakaaaDoorK22
import Derived.Test.YtdnbingddbakaaaDoorK24
import Derived.Test.YtdnbingddbakaaaDoorK09
namespace Go.Proofs.YtdnbingddbakaaaDoor
set_option linter.unusedVariables false
set_option linter.unusedSimpArgs false
open Go.RowKit

/-- An instruction that lies in memory, and what it quotes below B. -/
structure IL (B : Nat) (w : World) (b o : Nat) (x : In) (qa : Option Addr) (qc : Nat) : Prop where
  c0 : w.cell? ⟨b, o, none⟩ = some (.int .i64 x.op)
  c1 : w.cell? ⟨b, o + 1, none⟩ = some (.int .i64 x.a)
  c2 : w.cell? ⟨b, o + 2, none⟩ = some (.int .i64 x.n)
  c3 : w.cell? ⟨b, o + 3, none⟩ = some (.string x.lib)
  c4 : w.cell? ⟨b, o + 4, none⟩ = some (.string x.own)
  c5 : w.cell? ⟨b, o + 5, none⟩ = some (.int .i64 x.quote.kind)
  c6 : w.cell? ⟨b, o + 6, none⟩ = some (.int .i64 x.quote.n)
  c7 : w.cell? ⟨b, o + 7, none⟩ = some (.string x.quote.name)
  c8 : w.cell? ⟨b, o + 8, none⟩ = some (.int .i64 x.quote.stamp)
  c9 : w.cell? ⟨b, o + 9, none⟩ = some (.int .i64 x.quote.lib)
  c10 : w.cell? ⟨b, o + 10, none⟩ = some (.slice qa x.quote.kids.length qc)
  l3 : x.lib.size ≤ maxLen
  l4 : x.own.size ≤ maxLen
  l7 : x.quote.name.size ≤ maxLen
  lq : x.quote.kids.length ≤ qc
  lk : ∃ f, Dc (fun k => k < B) w f qa x.quote.kids
theorem IL.below {B : Nat} {w w' : World} {b o : Nat} {x : In} {qa : Option Addr} {qc : Nat} (h : IL B w b o x qa qc) (hb : b < B) (hw : Below B w w') : IL B w' b o x qa qc := by
  have e : ∀ q, w'.cell? ⟨b, q, none⟩ = w.cell? ⟨b, q, none⟩ := fun q => hw.cell (p := ⟨b, q, none⟩) hb
  obtain ⟨f, hk⟩ := h.lk
  exact ⟨(e _).trans h.c0, (e _).trans h.c1, (e _).trans h.c2, (e _).trans h.c3, (e _).trans h.c4, (e _).trans h.c5, (e _).trans h.c6, (e _).trans h.c7, (e _).trans h.c8, (e _).trans h.c9, (e _).trans h.c10, h.l3, h.l4, h.l7, h.lq, f, Dc.stay (fun k hk => hw.block k hk) (fun _ h => h) f _ _ hk⟩
/-- Code that lies in memory. -/
def CL (B : Nat) (w : World) (a : Option Addr) (code : List In) : Prop :=
  code = [] ∨ ∃ b o, a = some ⟨b, o, none⟩ ∧ b < B ∧ ∀ i x, code[i]? = some x → ∃ qa qc, IL B w b (o + i * 11) x qa qc
theorem CL.below {B : Nat} {w w' : World} {a : Option Addr} {code : List In} (h : CL B w a code) (hw : Below B w w') : CL B w' a code := by
  rcases h with h | ⟨b, o, ha, hb, h⟩
  · exact Or.inl h
  · exact Or.inr ⟨b, o, ha, hb, fun i x hx => by obtain ⟨qa, qc, hi⟩ := h i x hx; exact ⟨qa, qc, hi.below hb hw⟩⟩
/-- Procedures that lie in memory. -/
def PL (B : Nat) (w : World) (a : Option Addr) (ps : List Pro) : Prop :=
  ps = [] ∨ ∃ b o, a = some ⟨b, o, none⟩ ∧ b < B ∧ ∀ i p, ps[i]? = some p → ∃ ca cc, w.cell? ⟨b, o + i * 2, none⟩ = some (.int .i64 p.args) ∧ w.cell? ⟨b, o + i * 2 + 1, none⟩ = some (.slice ca p.code.length cc) ∧ p.code.length ≤ cc ∧ CL B w ca p.code
theorem PL.below {B : Nat} {w w' : World} {a : Option Addr} {ps : List Pro} (h : PL B w a ps) (hw : Below B w w') : PL B w' a ps := by
  rcases h with h | ⟨b, o, ha, hb, h⟩
  · exact Or.inl h
  · refine Or.inr ⟨b, o, ha, hb, fun i p hp => ?_⟩
    obtain ⟨ca, cc, h0, h1, h2, h3⟩ := h i p hp
    exact ⟨ca, cc, (hw.cell (p := ⟨b, o + i * 2, none⟩) hb).trans h0, (hw.cell (p := ⟨b, o + i * 2 + 1, none⟩) hb).trans h1, h2, h3.below hw⟩

/-- How many parameters may be around. -/
def KB (K : Kn) : Prop := ∀ (q : Nat) (s : Bool × Int), K[q]? = some (some s) → 0 ≤ s.2 ∧ s.2 ≤ (q : Int) * 2000
def ckCells (pa : Option Addr) (n pc G kc R : Nat) (gv : Value) : Array Value := #[.slice pa n pc, .slice (some ⟨G, 0, none⟩) n kc, .slice (some ⟨R, 0, none⟩) 13 13, gv]
/-- THE CHECKER AT WORK: what it knows lies in block G. -/
structure CK (B C G R : Nat) (PP : List Pro) (pa : Option Addr) (pc kc : Nat) (gv : Value) (K : Kn) (w : World) : Prop where
  c : w.heap[C]? = some (.cells (ckCells pa PP.length pc G kc R gv) 102 (0, 0))
  k : KR G K w
  r : w.heap[R]? = some (.cells (primNames.map Value.string).toArray 9 (0, 0))
  cg : C ≠ G
  rg : R ≠ G
  bc : B ≤ C
  bg : B ≤ G
  br : B ≤ R
  pl : PL B w pa PP
  len : K.length = PP.length
  kc : PP.length ≤ kc
  pc : PP.length ≤ pc
  n : PP.length ≤ 20000
  kb : KB K
  ar : ∀ P, P ∈ PP → 0 ≤ P.args ∧ P.args ≤ 2000 ∧ 1 ≤ P.code.length ∧ P.code.length ≤ 6000
theorem CK.lt {B C G R PP pa pc kc gv K w} (h : CK B C G R PP pa pc kc gv K w) : B < w.heap.size := by
  have := (Array.getElem?_eq_some_iff.1 h.c).1
  have := h.bc
  omega
theorem CK.next {B C G R PP pa pc kc gv K K' w w'} (h : CK B C G R PP pa pc kc gv K w) (hk : Keep G w w') (h2 : KR G K' w') (hl : K'.length = K.length) (hb : KB K') : CK B C G R PP pa pc kc gv K' w' := by
  have hB : Below B w w' := hk.toBelow h.bg (Nat.le_of_lt h.lt)
  refine ⟨(hk.block _ (Array.getElem?_eq_some_iff.1 h.c).1 (by simpa using h.cg)).trans h.c, h2, (hk.block _ (Array.getElem?_eq_some_iff.1 h.r).1 (by simpa using h.rg)).trans h.r, h.cg, h.rg, h.bc, h.bg, h.br, h.pl.below hB, hl.trans h.len, h.kc, h.pc, h.n, hb, h.ar⟩
theorem KR.keep {G : Nat} {K : Kn} {w w' : World} (h : KR G K w) (hb : Below w.heap.size w w') : KR G K w' := (hb.block _ (Array.getElem?_eq_some_iff.1 h).1).trans h

theorem insW_len (PP gl q len x) (K : Kn) : (insW PP gl q len x K).2.length = K.length := by
  unfold insW closeW
  repeat' split
  all_goals simp
theorem aro_of {K : Kn} {q : Nat} {s : Bool × Int} (h : K[q]? = some (some s)) : aro K q = s.2 := by
  unfold aro
  rw [List.getD_eq_getElem?_getD, h]
  rfl
theorem insW_kb {PP gl q len x} {K : Kn} {s : Bool × Int} (h : KB K) (hl : K.length = PP.length) (hq : K[q]? = some (some s)) (ha : ∀ P, P ∈ PP → 0 ≤ P.args ∧ P.args ≤ 2000 ∧ 1 ≤ P.code.length ∧ P.code.length ≤ 6000) : KB (insW PP gl q len x K).2 := by
  unfold insW
  repeat' split
  all_goals first | exact h | skip
  unfold closeW
  repeat' split
  all_goals first | exact h | skip
  rename_i h1 h2
  intro t u ht
  rw [List.getElem?_set] at ht
  by_cases e : x.a.toNat = t
  · rw [if_pos e] at ht
    have hlt : x.a.toNat < K.length := by omega
    rw [if_pos hlt] at ht
    simp only [Option.some.injEq] at ht
    subst ht
    rw [aro_of hq]
    have := h q s hq
    have hP : PP[x.a.toNat]? = some (PP[x.a.toNat]'(by omega)) := List.getElem?_eq_getElem (by omega)
    have hg : PP.getD x.a.toNat ⟨0, []⟩ = PP[x.a.toNat]'(by omega) := by rw [List.getD_eq_getElem?_getD, hP]; rfl
    rw [hg]
    have := ha _ (List.getElem_mem (l := PP) (n := x.a.toNat) (by omega))
    simp only
    omega
  · rw [if_neg e] at ht
    exact h t u ht
end Go.Proofs.YtdnbingddbakaaaDoor
