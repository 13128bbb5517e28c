/- Chapter 7: ModelLeft: its loop's rounds. -/
import Derived.Test.YthooljlikllnpaaDoorK46
namespace Go.Proofs.YthooljlikllnpaaDoor
set_option linter.unusedVariables false
set_option linter.unusedSimpArgs false
open Go.RowKit

theorem wpList_append_lies {P : Program} {w : World} {ops : Array Oper} {rest : List Oper} {o : Oper} {a : Act} {Q : Exit → Act → World → Prop} (hgd : o.guard = none) (s x : Operand) (t : TypeId)
    (ho : o.op = .call { callee := .builtin .append, args := #[s, x], argTypes := #[t, t] })
    (base : Nat) (e : TypeId) (i : TypeInfo) (z : Value) (size bytes : Nat) (ht : P.underlying t = some (.slice e)) (hi : P.info? e = some i) (hz : i.zero = some z)
    (hsize : i.size = size) (hby : i.bytes = bytes) (hzs : z.cells.size = size) (hsz : 0 < size)
    (v : Value) (n : Nat) (xs : List Value) (hs : a.eval s = v) (hown : w.ownsRow base e size v n xs)
    (ad : Addr) (m c : Nat) (news : List Value) (hx : a.eval x = .slice (some ad) m c) (hl : news.length = m * size) (hnews : ∀ j u, news[j]? = some u → w.cell? (ad.add j) = some u) (h1 : ∀ u ∈ news, u.oneCell' = true)
    (hm : 0 < m) (h63 : n + m ≤ maxLen) (hbytes : (n + m) * bytes ≤ 140737488355328) (hbase : base ≤ w.heap.size) (H : Nat) (hH : w.heap.size = H)
    (h : ∀ g cap w', w'.ownsRow base e size (.slice (some ⟨g, 0, none⟩) (n + m) cap) (n + m) (xs ++ news) → w.grownBy w' v.ownBlock → (v.ownBlock = some g ∨ g = H) → g < w'.heap.size → wpList P ops Q rest (a.put o.dst (.slice (some ⟨g, 0, none⟩) (n + m) cap)) w') : wpList P ops Q (o :: rest) a w :=
  wpList_plain hgd fun _ hK => wp_append_lies w s x t ho base e i z size bytes ht hi hz hsize hby hzs hsz v n xs hs hown ad m c news hx hl hnews h1 hm h63 hbytes hbase H hH fun g cap w' h2 h3 h4 h5 => hK _ _ (h g cap w' h2 h3 h4 h5)
theorem call1n (n : Int) (W : World) : Calls Tryd.prog 16 #[.string outB, .slice (some ⟨W.heap.size, 0, none⟩) 1 1] (W.alloc (.cells (cv 1 n ⟨#[]⟩ (.slice none 0 0)) 45)) fun e w' => Below W.heap.size W w' ∧ ∃ L cap, W.heap.size ≤ L ∧ L < w'.heap.size ∧ 2 ≤ cap ∧ e = .returned (.agg (cv 9 0 ⟨#[]⟩ (.slice (some ⟨L, 0, none⟩) 2 cap))) ∧ Rw w' L 0 (onum n) := by
  have hb : Below W.heap.size W (W.alloc (.cells (cv 1 n ⟨#[]⟩ (.slice none 0 0)) 45)) := (Below.refl _ _).alloc (Nat.le_refl _) _
  have h := Rw.of (World.alloc_heap_new W (.cells (cv 1 n ⟨#[]⟩ (.slice none 0 0)) 45))
  refine (callL_any outB W.heap.size 1 1 _ _ h rfl (by omega) (by omega) (alloc_lt _ _)).mono ?_
  rintro e w' ⟨h1, L, cap, h2, h3, h4, h5, h6⟩
  exact ⟨hb.trans (h1.mono hb.size), L, cap, Nat.le_trans hb.size h2, h3, h4, h5, h6⟩
theorem LJ.kv {b cB A0 len : Nat} {w0 : World} {ns1 ns2 : List Int} {es : List (Nat × Nat)} {kv wv : Value} {W : World} (h : LJ b cB A0 len w0 ns1 ns2 es kv wv W) : ∃ K kc, kv = .slice (some ⟨K, 0, none⟩) (ns1.length + 1) kc ∧ ns1.length + 1 ≤ kc ∧ K < W.heap.size ∧ Rw W K 0 (rowA len A0 es) := by
  rcases h.row.2 with ⟨_, h0⟩ | ⟨g, cap, cur, e, hbg, hg, hnc, _⟩
  · omega
  · refine ⟨g, cap, e, hnc, (Array.getElem?_eq_some_iff.1 hg).1, fun j u hj => ?_⟩
    have := h.row.cells (g := g) (by rw [e]; rfl) j u hj
    rw [add_lit0] at this
    simpa using this
theorem LJ.cell11 {b cB A0 len : Nat} {w0 : World} {ns1 ns2 : List Int} {es : List (Nat × Nat)} {kv wv : Value} {W : World} (h : LJ b cB A0 len w0 ns1 ns2 es kv wv W) : W.cell? ⟨cB, 11, none⟩ = some kv ∧ W.frozen? ⟨cB, 11, none⟩ = false := ⟨(cellO h.box).trans rfl, looseO h.box⟩
theorem LJ.grown11 {b cB A0 len : Nat} {w0 : World} {ns1 ns2 : List Int} {es : List (Nat × Nat)} {kv wv : Value} {W w6 : World} {o : Obj} (h : LJ b cB A0 len w0 ns1 ns2 es kv wv W) (hgrow : (W.alloc o).grownBy w6 kv.ownBlock) : w6.cell? ⟨cB, 11, none⟩ = some kv ∧ w6.frozen? ⟨cB, 11, none⟩ = false := by
  have hba : Below W.heap.size W (W.alloc o) := (Below.refl _ _).alloc (Nat.le_refl _) _
  have e : w6.heap[cB]? = some (.cells (cv 9 0 ⟨#[]⟩ kv) 45 (0, 0)) := (hgrow.block cB (Nat.lt_of_lt_of_le h.far.1 hba.size) (fun e => h.far.2.1 e.symm)).trans ((hba.block cB h.far.1).trans h.box)
  exact ⟨(cellO e).trans rfl, looseO e⟩
theorem news12 (w : World) (cs : Array Value) : ∀ j u, cs.toList[j]? = some u → (w.alloc (.cells cs 45)).cell? ((⟨w.heap.size, 0, none⟩ : Addr).add j) = some u := by
  intro j u hj
  rw [add_lit0]
  have := Rw.of (World.alloc_heap_new w (.cells cs 45)) j u hj
  simpa using this
theorem ocell_one (e : Nat × Nat) : ∀ u ∈ ocell e, u.oneCell' = true := by
  intro u hu
  simp [ocell, cv] at hu
  rcases hu with rfl | rfl | rfl | rfl | rfl | rfl | rfl | rfl <;> rfl
theorem LJ.pushm {b cB A0 len L cap g gcap m : Nat} {n : Int} {w0 : World} {ns1 ns2 : List Int} {es : List (Nat × Nat)} {kv wv : Value} {W w5 w6 : World} (h : LJ b cB A0 len w0 ns1 ns2 es kv wv W) (hm : ns1.length = m) (hb : Below W.heap.size W w5) (hL : W.heap.size ≤ L) (hL5 : L < w5.heap.size) (hcap : 2 ≤ cap) (hr : Rw w5 L 0 (onum n))
    (hown : w6.ownsRow b 45 12 (.slice (some ⟨g, 0, none⟩) (m + 1 + 1) gcap) (m + 1 + 1) (rowA len A0 es ++ ocell (L, cap))) (hgrow : (w5.alloc (.cells (cv 9 0 ⟨#[]⟩ (.slice (some ⟨L, 0, none⟩) 2 cap)) 45)).grownBy w6 kv.ownBlock) (hat : kv.ownBlock = some g ∨ g = w5.heap.size + 1) :
    LJ b cB A0 len w0 (ns1 ++ [n]) ns2 (es ++ [(L, cap)]) (.slice (some ⟨g, 0, none⟩) (m + 1 + 1) gcap) wv (w6.setCell ⟨cB, 11, none⟩ (.slice (some ⟨g, 0, none⟩) (m + 1 + 1) gcap)) := by
  subst hm
  exact h.push hb hL hL5 hcap hr hown hgrow hat
theorem LJ.pushWm {b cB A0 len g gcap m : Nat} {n : Int} {w0 : World} {ns1 ns2 : List Int} {es : List (Nat × Nat)} {kv wv : Value} {w5 w6 : World} (h : LJ b cB A0 len w0 ns1 ns2 es kv wv w5) (hm : ns2.length = m)
    (hown : w6.ownsRow b 9 1 (.slice (some ⟨g, 0, none⟩) (m + 1) gcap) (m + 1) ((ns2.map fun n => strV (Lib.itoa n)) ++ [strV (Lib.itoa n)])) (hgrow : (w5.alloc (.cells #[strV (Lib.itoa n)] 9)).grownBy w6 wv.ownBlock) (hat : wv.ownBlock = some g ∨ g = w5.heap.size + 1) :
    LJ b cB A0 len w0 ns1 (ns2 ++ [n]) es kv (.slice (some ⟨g, 0, none⟩) (m + 1) gcap) w6 := by
  subst hm
  exact h.pushW (Below.refl _ _) hown hgrow hat
theorem take_snoc {ns : List Int} {j : Nat} {n : Int} (h : ns[j]? = some n) : ns.take (j + 1) = ns.take j ++ [n] := by
  rw [List.take_add_one, h]
  rfl
/-- The run of what the loop has made. -/
theorem laidL {b cB A0 len K kc T : Nat} {w0 : World} {ns : List Int} {es : List (Nat × Nat)} {wv : Value} {W : World} (h : LJ b cB A0 len w0 ns ns es (.slice (some ⟨K, 0, none⟩) (len + 1) kc) wv W) (hlen : len = ns.length) (hn : len ≤ 30) (h1 : ∀ n ∈ ns, rangeN n = true) (ht : Tab T W) (hT : T ≤ W.heap.size) :
    Calls Tryd.prog 8 #[.slice (some ⟨W.heap.size + 1, 0, none⟩) 1 1, .int .i64 500] ((W.alloc (.cells (cv 9 0 ⟨#[]⟩ (.slice (some ⟨K, 0, none⟩) (len + 1) kc)) 45)).alloc (.cells #[.string ⟨#[]⟩, .slice (some ⟨W.heap.size, 0, none⟩) 1 1] 39)) fun e w' => Below W.heap.size W w' ∧ ∃ a n c, e = .returned (.tuple #[.agg #[.int .i64 1, .slice a n c], .agg #[.int .i64 0, .int .i64 0]]) ∧ TM (ns.map Lib.itoa) a n c w' := by
  subst hlen
  obtain ⟨K', kc', e, hkc, hK, hrow⟩ := h.kv
  cases e
  obtain ⟨V, hV⟩ : ∃ V, V = (W.alloc (.cells (cv 9 0 ⟨#[]⟩ (.slice (some ⟨K, 0, none⟩) (ns.length + 1) kc)) 45)).alloc (.cells #[.string ⟨#[]⟩, .slice (some ⟨W.heap.size, 0, none⟩) 1 1] 39) := ⟨_, rfl⟩
  have hb : Below W.heap.size W V := by rw [hV]; exact ((Below.refl _ _).alloc (Nat.le_refl _) _).alloc (by simp) _
  have hC : V.heap[W.heap.size]? = some (.cells (cv 9 0 ⟨#[]⟩ (.slice (some ⟨K, 0, none⟩) (ns.length + 1) kc)) 45 (0, 0)) := by
    rw [hV, Below.heap_alloc _ _ _ (alloc_lt _ _)]
    exact World.alloc_heap_new W _
  have hP : V.heap[W.heap.size + 1]? = some (.cells #[.string ⟨#[]⟩, .slice (some ⟨W.heap.size, 0, none⟩) 1 1] 39 (0, 0)) := by
    have := World.alloc_heap_new (W.alloc (.cells (cv 9 0 ⟨#[]⟩ (.slice (some ⟨K, 0, none⟩) (ns.length + 1) kc)) 45)) (.cells #[.string ⟨#[]⟩, .slice (some ⟨W.heap.size, 0, none⟩) 1 1] 39)
    rw [hV]
    simpa using this
  have hz : V.heap.size = W.heap.size + 1 + 1 := by rw [hV]; simp
  rw [← hV]
  have hcc : Cc (W.heap.size + 1) V 3 (some ⟨W.heap.size, 0, none⟩) [corL ns] := cc_left (Rw.of hC) (hrow.below hb hK) (h.ar.below hb h.a0.1) h.le hkc (by omega) (by omega) (by have := h.a0.1; omega) (by omega) (fun i e n he hn => by
    obtain ⟨g1, g2, g3, g4⟩ := h.it i e n he hn
    exact ⟨g1, by have := g3.1; omega, g4.below hb g3.1⟩)
  refine (Run_left ns (W.heap.size + 1) 2 T (W.heap.size + 1) W.heap.size 0 1 ⟨#[]⟩ V hcc (by omega) (Nat.le_refl _) hn hP (ht.below (hb.mono hT)) (by omega) h1 (right_left ns hn h1)).mono ?_
  rintro e w' ⟨hbw, r⟩
  exact ⟨hb.trans (hbw.mono hb.size), r⟩
end Go.Proofs.YthooljlikllnpaaDoor
