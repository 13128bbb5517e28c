/- Chapter 7: two results that are the same. Chapter 7: ModelLeft: its loop's rounds. Chapter 7: ModelLeft: the law's walk. -/
import Derived.Test.YthooljlikllnpaaDoorK26
namespace Go.Proofs.YthooljlikllnpaaDoor
section
set_option linter.unusedVariables false
set_option linter.unusedSimpArgs false
open Go.RowKit

set_option maxRecDepth 100000 in
set_option maxHeartbeats 3200000 in
theorem Same_any (txs : List (List UInt8)) (a a2 : Option Addr) (n n2 c c2 : Nat) (w : World) (hn : txs.length ≤ 1000) (h1 : TM txs a n c w) (h2 : TM txs a2 n2 c2 w) :
    Calls Tryd.prog 12 #[.agg #[.int .i64 1, .slice a n c], .agg #[.int .i64 1, .slice a2 n2 c2]] w fun e w' => e = .returned (.bool true) ∧ Below w.heap.size w w' := by
  obtain ⟨rfl, hc1, h1⟩ := h1
  obtain ⟨rfl, hc2, h2⟩ := h2
  obtain ⟨W0, hW0⟩ : ∃ W0, W0 = (w.alloc (.cells #[.int .i64 1, .slice a txs.length c] 25)).alloc (.cells #[.int .i64 1, .slice a2 txs.length c2] 25) := ⟨_, rfl⟩
  have hb0 : Below w.heap.size w W0 := by rw [hW0]; exact ((Below.refl _ _).alloc (Nat.le_refl _) _).alloc (by simp) _
  have a0 : W0.heap[w.heap.size]? = some (.cells #[.int .i64 1, .slice a txs.length c] 25 (0, 0)) := by rw [hW0, Below.heap_alloc _ _ _ (alloc_lt _ _)]; exact World.alloc_heap_new w _
  have a1 : W0.heap[w.heap.size + 1]? = some (.cells #[.int .i64 1, .slice a2 txs.length c2] 25 (0, 0)) := by
    rw [hW0]
    have := World.alloc_heap_new (w.alloc (.cells #[.int .i64 1, .slice a txs.length c] 25)) (.cells #[.int .i64 1, .slice a2 txs.length c2] 25)
    simpa using this
  have x0 : W0.cell? ⟨w.heap.size, 0, none⟩ = some (.int .i64 1) := (cellO a0).trans rfl
  have x1 : W0.cell? ⟨w.heap.size, 1, none⟩ = some (.slice a txs.length c) := (cellO a0).trans rfl
  have y0 : W0.cell? ⟨w.heap.size + 1, 0, none⟩ = some (.int .i64 1) := (cellO a1).trans rfl
  have y1 : W0.cell? ⟨w.heap.size + 1, 1, none⟩ = some (.slice a2 txs.length c2) := (cellO a1).trans rfl
  have HX : Hid (∀ W, Below W0.heap.size W0 W → W.cell? ⟨w.heap.size, 1, none⟩ = some (.slice a txs.length c) ∧ W.cell? ⟨w.heap.size + 1, 1, none⟩ = some (.slice a2 txs.length c2)) := fun W hb => ⟨(hb.cell (p := ⟨w.heap.size, 1, none⟩) (cell_lt x1)).trans x1, (hb.cell (p := ⟨w.heap.size + 1, 1, none⟩) (cell_lt y1)).trans y1⟩
  have HT : Hid (∀ W j s, Below W0.heap.size W0 W → txs[j]? = some s → ∃ G H, a = some ⟨G, 0, none⟩ ∧ a2 = some ⟨H, 0, none⟩ ∧ W.cell? ⟨G, j, none⟩ = some (.string ⟨s.toArray⟩) ∧ W.cell? ⟨H, j, none⟩ = some (.string ⟨s.toArray⟩)) := by
    intro W j s hb hj
    have hne : txs ≠ [] := by rintro rfl; simp at hj
    have hbb : Below w.heap.size w W := hb0.trans (hb.mono hb0.size)
    rcases h1 with h1 | ⟨G, rfl, g1⟩
    · exact absurd h1 hne
    rcases h2 with h2 | ⟨H, rfl, g2⟩
    · exact absurd h2 hne
    exact ⟨G, H, rfl, rfl, (hbb.cell (p := ⟨G, j, none⟩) (cell_lt (g1 j s hj))).trans (g1 j s hj), (hbb.cell (p := ⟨H, j, none⟩) (cell_lt (g2 j s hj))).trans (g2 j s hj)⟩
  have HB0 := hidd hb0
  have HC : Hid (txs.length ≤ c ∧ txs.length ≤ c2) := ⟨hc1, hc2⟩
  have HL : Hid (∀ j, j < txs.length → ∃ s, txs[j]? = some s) := fun j hj => ⟨_, List.getElem?_eq_getElem hj⟩
  have hw0 := hW0.symm
  clear h1 h2 hb0 a0 a1 hW0 hc1 hc2
  generalize txs.length = N at *
  go_enter Tryd.func12, Tryd.ntmps12
  go_wp2_with fail
  go_loopw [5, 23] (fun _ ix wr => ∃ j : Nat, j ≤ N ∧ ix = .int .i64 j ∧ Hid (Below W0.heap.size W0 wr)) (fun _ ix _ => N - (intOf ix).toNat)
  case atStart => exact ⟨0, Nat.zero_le _, rfl, Below.refl _ _⟩
  case round =>
    obtain ⟨j, hj, rfl, HB⟩ := hrel
    obtain ⟨u1, v1⟩ := HX.out wr HB.out
    by_cases hlt : j < N
    · obtain ⟨s, hs⟩ := HL.out j hlt
      obtain ⟨G, H, rfl, rfl, e1, e2⟩ := HT.out wr j s HB.out hs
      clear hs
      go_wp2_with fail
      go_region
      all_goals
        go_wp2_with fail
        go_roundw
        case rel => exact ⟨j + 1, hlt, by go_num, HB.out.drew⟩
        case measure => simp [intOf]; omega
    · obtain rfl : j = N := by omega
      go_wp2_with fail
      go_ret
      exact ⟨rfl, HB0.out.trans (HB.out.mono HB0.out.size)⟩
end
section
set_option linter.unusedVariables false
set_option linter.unusedSimpArgs false
open Go.RowKit

theorem wpList_append_lies {P : Program} {w : World} {ops : Array Oper} {rest : List Oper} {o : Oper} {a : Act} {Q : Exit → Act → World → Prop} (hgd : o.guard = none) (s x : Operand) (t : TypeId)
    (ho : o.op = .call { callee := .builtin .append, args := #[s, x], argTypes := #[t, t] })
    (base : Nat) (e : TypeId) (i : TypeInfo) (z : Value) (size bytes : Nat) (ht : P.underlying t = some (.slice e)) (hi : P.info? e = some i) (hz : i.zero = some z)
    (hsize : i.size = size) (hby : i.bytes = bytes) (hzs : z.cells.size = size) (hsz : 0 < size)
    (v : Value) (n : Nat) (xs : List Value) (hs : a.eval s = v) (hown : w.ownsRow base e size v n xs)
    (ad : Addr) (m c : Nat) (news : List Value) (hx : a.eval x = .slice (some ad) m c) (hl : news.length = m * size) (hnews : ∀ j u, news[j]? = some u → w.cell? (ad.add j) = some u) (h1 : ∀ u ∈ news, u.oneCell' = true)
    (hm : 0 < m) (h63 : n + m ≤ maxLen) (hbytes : (n + m) * bytes ≤ 140737488355328) (hbase : base ≤ w.heap.size) (H : Nat) (hH : w.heap.size = H)
    (h : ∀ g cap w', w'.ownsRow base e size (.slice (some ⟨g, 0, none⟩) (n + m) cap) (n + m) (xs ++ news) → w.grownBy w' v.ownBlock → (v.ownBlock = some g ∨ g = H) → g < w'.heap.size → wpList P ops Q rest (a.put o.dst (.slice (some ⟨g, 0, none⟩) (n + m) cap)) w') : wpList P ops Q (o :: rest) a w :=
  wpList_plain hgd fun _ hK => wp_append_lies w s x t ho base e i z size bytes ht hi hz hsize hby hzs hsz v n xs hs hown ad m c news hx hl hnews h1 hm h63 hbytes hbase H hH fun g cap w' h2 h3 h4 h5 => hK _ _ (h g cap w' h2 h3 h4 h5)
theorem call1n (n : Int) (W : World) : Calls Tryd.prog 16 #[.string outB, .slice (some ⟨W.heap.size, 0, none⟩) 1 1] (W.alloc (.cells (cv 1 n ⟨#[]⟩ (.slice none 0 0)) 45)) fun e w' => Below W.heap.size W w' ∧ ∃ L cap, W.heap.size ≤ L ∧ L < w'.heap.size ∧ 2 ≤ cap ∧ e = .returned (.agg (cv 9 0 ⟨#[]⟩ (.slice (some ⟨L, 0, none⟩) 2 cap))) ∧ Rw w' L 0 (onum n) := by
  have hb : Below W.heap.size W (W.alloc (.cells (cv 1 n ⟨#[]⟩ (.slice none 0 0)) 45)) := (Below.refl _ _).alloc (Nat.le_refl _) _
  have h := Rw.of (World.alloc_heap_new W (.cells (cv 1 n ⟨#[]⟩ (.slice none 0 0)) 45))
  refine (callL_any outB W.heap.size 1 1 _ _ h rfl (by omega) (by omega) (alloc_lt _ _)).mono ?_
  rintro e w' ⟨h1, L, cap, h2, h3, h4, h5, h6⟩
  exact ⟨hb.trans (h1.mono hb.size), L, cap, Nat.le_trans hb.size h2, h3, h4, h5, h6⟩
theorem LJ.kv {b cB A0 len : Nat} {w0 : World} {ns1 ns2 : List Int} {es : List (Nat × Nat)} {kv wv : Value} {W : World} (h : LJ b cB A0 len w0 ns1 ns2 es kv wv W) : ∃ K kc, kv = .slice (some ⟨K, 0, none⟩) (ns1.length + 1) kc ∧ ns1.length + 1 ≤ kc ∧ K < W.heap.size ∧ Rw W K 0 (rowA len A0 es) := by
  rcases h.row.2 with ⟨_, h0⟩ | ⟨g, cap, cur, e, hbg, hg, hnc, _⟩
  · omega
  · refine ⟨g, cap, e, hnc, (Array.getElem?_eq_some_iff.1 hg).1, fun j u hj => ?_⟩
    have := h.row.cells (g := g) (by rw [e]; rfl) j u hj
    rw [add_lit0] at this
    simpa using this
theorem LJ.cell11 {b cB A0 len : Nat} {w0 : World} {ns1 ns2 : List Int} {es : List (Nat × Nat)} {kv wv : Value} {W : World} (h : LJ b cB A0 len w0 ns1 ns2 es kv wv W) : W.cell? ⟨cB, 11, none⟩ = some kv ∧ W.frozen? ⟨cB, 11, none⟩ = false := ⟨(cellO h.box).trans rfl, looseO h.box⟩
theorem LJ.grown11 {b cB A0 len : Nat} {w0 : World} {ns1 ns2 : List Int} {es : List (Nat × Nat)} {kv wv : Value} {W w6 : World} {o : Obj} (h : LJ b cB A0 len w0 ns1 ns2 es kv wv W) (hgrow : (W.alloc o).grownBy w6 kv.ownBlock) : w6.cell? ⟨cB, 11, none⟩ = some kv ∧ w6.frozen? ⟨cB, 11, none⟩ = false := by
  have hba : Below W.heap.size W (W.alloc o) := (Below.refl _ _).alloc (Nat.le_refl _) _
  have e : w6.heap[cB]? = some (.cells (cv 9 0 ⟨#[]⟩ kv) 45 (0, 0)) := (hgrow.block cB (Nat.lt_of_lt_of_le h.far.1 hba.size) (fun e => h.far.2.1 e.symm)).trans ((hba.block cB h.far.1).trans h.box)
  exact ⟨(cellO e).trans rfl, looseO e⟩
theorem news12 (w : World) (cs : Array Value) : ∀ j u, cs.toList[j]? = some u → (w.alloc (.cells cs 45)).cell? ((⟨w.heap.size, 0, none⟩ : Addr).add j) = some u := by
  intro j u hj
  rw [add_lit0]
  have := Rw.of (World.alloc_heap_new w (.cells cs 45)) j u hj
  simpa using this
theorem ocell_one (e : Nat × Nat) : ∀ u ∈ ocell e, u.oneCell' = true := by
  intro u hu
  simp [ocell, cv] at hu
  rcases hu with rfl | rfl | rfl | rfl | rfl | rfl | rfl | rfl <;> rfl
theorem LJ.pushm {b cB A0 len L cap g gcap m : Nat} {n : Int} {w0 : World} {ns1 ns2 : List Int} {es : List (Nat × Nat)} {kv wv : Value} {W w5 w6 : World} (h : LJ b cB A0 len w0 ns1 ns2 es kv wv W) (hm : ns1.length = m) (hb : Below W.heap.size W w5) (hL : W.heap.size ≤ L) (hL5 : L < w5.heap.size) (hcap : 2 ≤ cap) (hr : Rw w5 L 0 (onum n))
    (hown : w6.ownsRow b 45 12 (.slice (some ⟨g, 0, none⟩) (m + 1 + 1) gcap) (m + 1 + 1) (rowA len A0 es ++ ocell (L, cap))) (hgrow : (w5.alloc (.cells (cv 9 0 ⟨#[]⟩ (.slice (some ⟨L, 0, none⟩) 2 cap)) 45)).grownBy w6 kv.ownBlock) (hat : kv.ownBlock = some g ∨ g = w5.heap.size + 1) :
    LJ b cB A0 len w0 (ns1 ++ [n]) ns2 (es ++ [(L, cap)]) (.slice (some ⟨g, 0, none⟩) (m + 1 + 1) gcap) wv (w6.setCell ⟨cB, 11, none⟩ (.slice (some ⟨g, 0, none⟩) (m + 1 + 1) gcap)) := by
  subst hm
  exact h.push hb hL hL5 hcap hr hown hgrow hat
theorem LJ.pushWm {b cB A0 len g gcap m : Nat} {n : Int} {w0 : World} {ns1 ns2 : List Int} {es : List (Nat × Nat)} {kv wv : Value} {w5 w6 : World} (h : LJ b cB A0 len w0 ns1 ns2 es kv wv w5) (hm : ns2.length = m)
    (hown : w6.ownsRow b 9 1 (.slice (some ⟨g, 0, none⟩) (m + 1) gcap) (m + 1) ((ns2.map fun n => strV (Lib.itoa n)) ++ [strV (Lib.itoa n)])) (hgrow : (w5.alloc (.cells #[strV (Lib.itoa n)] 9)).grownBy w6 wv.ownBlock) (hat : wv.ownBlock = some g ∨ g = w5.heap.size + 1) :
    LJ b cB A0 len w0 ns1 (ns2 ++ [n]) es kv (.slice (some ⟨g, 0, none⟩) (m + 1) gcap) w6 := by
  subst hm
  exact h.pushW (Below.refl _ _) hown hgrow hat
theorem take_snoc {ns : List Int} {j : Nat} {n : Int} (h : ns[j]? = some n) : ns.take (j + 1) = ns.take j ++ [n] := by
  rw [List.take_add_one, h]
  rfl
/-- The run of what the loop has made. -/
theorem laidL {b cB A0 len K kc T : Nat} {w0 : World} {ns : List Int} {es : List (Nat × Nat)} {wv : Value} {W : World} (h : LJ b cB A0 len w0 ns ns es (.slice (some ⟨K, 0, none⟩) (len + 1) kc) wv W) (hlen : len = ns.length) (hn : len ≤ 30) (h1 : ∀ n ∈ ns, rangeN n = true) (ht : Tab T W) (hT : T ≤ W.heap.size) :
    Calls Tryd.prog 8 #[.slice (some ⟨W.heap.size + 1, 0, none⟩) 1 1, .int .i64 500] ((W.alloc (.cells (cv 9 0 ⟨#[]⟩ (.slice (some ⟨K, 0, none⟩) (len + 1) kc)) 45)).alloc (.cells #[.string ⟨#[]⟩, .slice (some ⟨W.heap.size, 0, none⟩) 1 1] 39)) fun e w' => Below W.heap.size W w' ∧ ∃ a n c, e = .returned (.tuple #[.agg #[.int .i64 1, .slice a n c], .agg #[.int .i64 0, .int .i64 0]]) ∧ TM (ns.map Lib.itoa) a n c w' := by
  subst hlen
  obtain ⟨K', kc', e, hkc, hK, hrow⟩ := h.kv
  cases e
  obtain ⟨V, hV⟩ : ∃ V, V = (W.alloc (.cells (cv 9 0 ⟨#[]⟩ (.slice (some ⟨K, 0, none⟩) (ns.length + 1) kc)) 45)).alloc (.cells #[.string ⟨#[]⟩, .slice (some ⟨W.heap.size, 0, none⟩) 1 1] 39) := ⟨_, rfl⟩
  have hb : Below W.heap.size W V := by rw [hV]; exact ((Below.refl _ _).alloc (Nat.le_refl _) _).alloc (by simp) _
  have hC : V.heap[W.heap.size]? = some (.cells (cv 9 0 ⟨#[]⟩ (.slice (some ⟨K, 0, none⟩) (ns.length + 1) kc)) 45 (0, 0)) := by
    rw [hV, Below.heap_alloc _ _ _ (alloc_lt _ _)]
    exact World.alloc_heap_new W _
  have hP : V.heap[W.heap.size + 1]? = some (.cells #[.string ⟨#[]⟩, .slice (some ⟨W.heap.size, 0, none⟩) 1 1] 39 (0, 0)) := by
    have := World.alloc_heap_new (W.alloc (.cells (cv 9 0 ⟨#[]⟩ (.slice (some ⟨K, 0, none⟩) (ns.length + 1) kc)) 45)) (.cells #[.string ⟨#[]⟩, .slice (some ⟨W.heap.size, 0, none⟩) 1 1] 39)
    rw [hV]
    simpa using this
  have hz : V.heap.size = W.heap.size + 1 + 1 := by rw [hV]; simp
  rw [← hV]
  have hcc : Cc (W.heap.size + 1) V 3 (some ⟨W.heap.size, 0, none⟩) [corL ns] := cc_left (Rw.of hC) (hrow.below hb hK) (h.ar.below hb h.a0.1) h.le hkc (by omega) (by omega) (by have := h.a0.1; omega) (by omega) (fun i e n he hn => by
    obtain ⟨g1, g2, g3, g4⟩ := h.it i e n he hn
    exact ⟨g1, by have := g3.1; omega, g4.below hb g3.1⟩)
  refine (Run_left ns (W.heap.size + 1) 2 T (W.heap.size + 1) W.heap.size 0 1 ⟨#[]⟩ V hcc (by omega) (Nat.le_refl _) hn hP (ht.below (hb.mono hT)) (by omega) h1 (right_left ns hn h1)).mono ?_
  rintro e w' ⟨hbw, r⟩
  exact ⟨hb.trans (hbw.mono hb.size), r⟩
end
section
set_option linter.unusedVariables false
set_option linter.unusedSimpArgs false
open Go.RowKit

/-- Numbers in memory. -/
def NsM (ns : List Int) (la : Option Addr) (w : World) : Prop := ns = [] ∨ ∃ b o, la = some ⟨b, o, none⟩ ∧ ∀ j n, ns[j]? = some n → w.cell? ⟨b, o + j, none⟩ = some (.int .i64 n)
theorem NsM.up {ns : List Int} {la : Option Addr} {w w' : World} (h : NsM ns la w) (hb : Below w.heap.size w w') : NsM ns la w' := by
  rcases h with h | ⟨b, o, h1, h2⟩
  · exact Or.inl h
  · exact Or.inr ⟨b, o, h1, fun j n hj => (hb.cell (p := ⟨b, o + j, none⟩) (cell_lt (h2 j n hj))).trans (h2 j n hj)⟩
/-- The world as the loop begins. -/
def startL (len : Nat) (w : World) : World := ((w.alloc (.cells (cv 1 0 ⟨#[]⟩ (.slice none 0 0)) 45)).alloc (.cells (cw 8 len 0 ⟨#[]⟩ (.slice (some ⟨w.heap.size, 0, none⟩) 1 1)) 45)).alloc (.cells (cv 9 0 ⟨#[]⟩ (.slice (some ⟨w.heap.size + 1, 0, none⟩) 1 1)) 45)
theorem startL_ok (len : Nat) (w0 w : World) (hb : Below w0.heap.size w0 w) : LJ w0.heap.size (w.heap.size + 1 + 1) w.heap.size len w0 [] [] [] (.slice (some ⟨w.heap.size + 1, 0, none⟩) 1 1) (.slice none 0 0) (startL len w) := by
  have hs := hb.size
  have h0 : (startL len w).heap[w.heap.size]? = some (.cells (cv 1 0 ⟨#[]⟩ (.slice none 0 0)) 45 (0, 0)) := by
    unfold startL
    rw [Below.heap_alloc _ _ _ (by simp; omega), Below.heap_alloc _ _ _ (alloc_lt _ _)]
    exact World.alloc_heap_new w _
  have h1 : (startL len w).heap[w.heap.size + 1]? = some (.cells (cw 8 len 0 ⟨#[]⟩ (.slice (some ⟨w.heap.size, 0, none⟩) 1 1)) 45 (0, 0)) := by
    unfold startL
    rw [Below.heap_alloc _ _ _ (by simp)]
    have := World.alloc_heap_new (w.alloc (.cells (cv 1 0 ⟨#[]⟩ (.slice none 0 0)) 45)) (.cells (cw 8 len 0 ⟨#[]⟩ (.slice (some ⟨w.heap.size, 0, none⟩) 1 1)) 45)
    simpa using this
  have h2 : (startL len w).heap[w.heap.size + 1 + 1]? = some (.cells (cv 9 0 ⟨#[]⟩ (.slice (some ⟨w.heap.size + 1, 0, none⟩) 1 1)) 45 (0, 0)) := by
    have := World.alloc_heap_new ((w.alloc (.cells (cv 1 0 ⟨#[]⟩ (.slice none 0 0)) 45)).alloc (.cells (cw 8 len 0 ⟨#[]⟩ (.slice (some ⟨w.heap.size, 0, none⟩) 1 1)) 45)) (.cells (cv 9 0 ⟨#[]⟩ (.slice (some ⟨w.heap.size + 1, 0, none⟩) 1 1)) 45)
    simpa [startL] using this
  have hz : (startL len w).heap.size = w.heap.size + 1 + 1 + 1 := by simp [startL]
  have hbS : Below w0.heap.size w0 (startL len w) := ((hb.alloc hs _).alloc (by simp; omega) _).alloc (by simp; omega) _
  refine ⟨hbS, hbS.size, by omega, h2, ⟨by omega, by simp [Value.ownBlock], by simp [Value.ownBlock]⟩, rfl, ?_, ⟨by omega, by simp [Value.ownBlock], by simp [Value.ownBlock]⟩, by omega, by simpa using Rw.of h0, fun i e n he => by simp at he, World.ownsRow_nil _ _ _ _⟩
  exact ⟨rfl, Or.inr ⟨w.heap.size + 1, 1, _, rfl, by omega, h1, Nat.le_refl _, by decide, rfl, rfl⟩⟩
set_option maxRecDepth 100000 in
set_option maxHeartbeats 6400000 in
theorem ModelLeft_walk (T : Nat) (ns : List Int) (la : Option Addr) (lcap : Nat) (w : World) (ht : Tab T w) (hT : T ≤ w.heap.size) (hns : NsM ns la w) (hlc : ns.length ≤ lcap) (hl63 : ns.length ≤ 9223372036854775807) :
    Calls Tryd.prog 6 #[.slice la ns.length lcap] w fun e w' => e = .returned (.bool true) ∧ Below w.heap.size w w' := by
  have HAl := hidd (alive_any T w ht hT)
  by_cases hbig : 30 < ns.length
  · have d1 : decide ((ns.length : Int) > 30) = true := by simp; omega
    have d1' : decide (30 < (ns.length : Int)) = true := by simp; omega
    clear hns ht hT
    generalize ns.length = len at *
    go_enter Tryd.func6, Tryd.ntmps6
    go_wp2_with fail
    refine HAl.out.mono ?_
    rintro e w1 ⟨rfl, hb1⟩
    go_wp2_with fail
    go_ret
    exact ⟨rfl, hb1⟩
  have d1 : decide ((ns.length : Int) > 30) = false := by simp; omega
  have d1' : decide (30 < (ns.length : Int)) = false := by simp; omega
  have HN := hidd (num_any 0)
  have HT : Hid (Tab T w ∧ T ≤ w.heap.size ∧ NsM ns la w ∧ ns.length ≤ lcap) := ⟨ht, hT, hns, hlc⟩
  obtain ⟨len, hlen⟩ : ∃ len, len = ns.length := ⟨_, rfl⟩
  have HLN : Hid (len = ns.length) := hlen
  have hle : len ≤ 30 := by omega
  rw [← hlen] at d1 d1' ⊢
  clear hns ht hT hlen hbig hl63 hlc
  have HS : Hid (∀ W, startL len W = ((W.alloc (.cells (cv 1 0 ⟨#[]⟩ (.slice none 0 0)) 45)).alloc (.cells (cw 8 len 0 ⟨#[]⟩ (.slice (some ⟨W.heap.size, 0, none⟩) 1 1)) 45)).alloc (.cells (cv 9 0 ⟨#[]⟩ (.slice (some ⟨W.heap.size + 1, 0, none⟩) 1 1)) 45)) := fun W => rfl
  unfold cv cw at HS
  unfold cv at HN
  go_enter Tryd.func6, Tryd.ntmps6
  go_wp2_with fail
  refine HAl.out.mono ?_
  rintro e w1 ⟨rfl, hb1⟩
  have HB1 := hidd hb1
  clear hb1
  go_wp2_with fail
  refine (HN.out _).mono ?_
  rintro e w2 ⟨rfl, hb2⟩
  have HJ := hidd (startL_ok len w1 w2 hb2)
  have hst := (HS.out w2).symm
  clear hb2 HN HS HAl
  go_wp2_with fail
  have HC1 := hidd call1n
  have HNU := hidd num_any
  have HNM := hidd Num_any
  obtain ⟨cB, hcB⟩ : ∃ cB, cB = w2.heap.size + 1 + 1 := ⟨_, rfl⟩
  obtain ⟨A0, hA0⟩ : ∃ A0, A0 = w2.heap.size := ⟨_, rfl⟩
  rw [← hcB, ← hA0] at HJ
  rw [← hcB]
  have HT1 : Hid (∀ W, Below w1.heap.size w1 W → Below w.heap.size w W ∧ Tab T W ∧ T ≤ W.heap.size ∧ NsM ns la W) := fun W hb => by
    have hbb := HB1.out.trans (hb.mono HB1.out.size)
    exact ⟨hbb, HT.out.1.below (hbb.mono HT.out.2.1), Nat.le_trans HT.out.2.1 hbb.size, HT.out.2.2.1.up hbb⟩
  have HTX : Hid (∀ n W, rangeN n = true → Tab T W → T ≤ W.heap.size → Calls Tryd.prog 17 #[.agg #[.int .i64 1, .int .i64 n, .string ⟨#[]⟩, .int .i64 0, .int .i64 0, .slice none 0 0]] W fun e w' => e = .returned (.string ⟨(Lib.itoa n).toArray⟩) ∧ Below W.heap.size W w') := fun n W hr h1 h2 => by
    unfold rangeN at hr
    simp only [Bool.and_eq_true, decide_eq_true_eq] at hr
    exact Text_num T n (by omega) (by omega) W h1 h2
  have HLC : Hid (ns.length ≤ lcap) := HT.out.2.2.2
  obtain ⟨i0, hinf, hz0, hz1, hz2⟩ := info_parts infoCore
  obtain ⟨i1, jinf, jz0, jz1, jz2⟩ := info_parts infoStr
  clear hcB hA0 hst HT HB1
  unfold cv outB at HC1
  unfold cv at HNU hz0
  go_loopw [4, 6, 23] (fun wv _ ix wr => ∃ (j : Nat) (es : List (Nat × Nat)) (kv : Value), j ≤ len ∧ ix = .int .i64 j ∧ Hid (LJ w1.heap.size cB A0 len w1 (ns.take j) (ns.take j) es kv wv wr) ∧ Hid (∀ n ∈ ns.take j, rangeN n = true)) (fun _ _ ix _ => len - (intOf ix).toNat)
  case atStart => exact ⟨0, [], _, Nat.zero_le _, rfl, HJ.out, fun n hn => by simp at hn⟩
  case round =>
    clear HJ
    obtain ⟨j, es, kv, hj, rfl, HJ, HR⟩ := hrel
    have HX := hidd (HT1.out wr HJ.out.below)
    by_cases hlt : j < len
    · have hjn : j < ns.length := by rw [← HLN.out]; exact hlt
      obtain ⟨n, hn⟩ : ∃ n, ns[j]? = some n := ⟨_, List.getElem?_eq_getElem hjn⟩
      obtain ⟨lb, lo, rfl, e1⟩ : ∃ b o, la = some ⟨b, o, none⟩ ∧ wr.cell? ⟨b, o + j, none⟩ = some (.int .i64 n) := by
        rcases HX.out.2.2.2 with h | ⟨b, o, h1, h2⟩
        · subst h; simp at hjn
        · exact ⟨b, o, h1, h2 j n hn⟩
      have HNN := hidd hn
      clear hn hjn
      by_cases hg : n > 1000000000000000
      · have g1 : decide (n > 1000000000000000) = true := by simpa using hg
        have g1' : decide (1000000000000000 < n) = true := by simpa using hg
        clear hg
        go_wp2_with fail
        go_ret
        exact ⟨rfl, HX.out.1⟩
      by_cases hl : n < -1000000000000000
      · have g1 : decide (n > 1000000000000000) = false := by simpa using hg
        have g1' : decide (1000000000000000 < n) = false := by simpa using hg
        have g2 : decide (n < -1000000000000000) = true := by simpa using hl
        clear hg hl
        go_wp2_with fail
        go_ret
        exact ⟨rfl, HX.out.1⟩
      have hrn : rangeN n = true := by simp [rangeN]; omega
      have g1 : decide (n > 1000000000000000) = false := by simpa using hg
      have g1' : decide (1000000000000000 < n) = false := by simpa using hg
      have g2 : decide (n < -1000000000000000) = false := by simpa using hl
      have HRN := hidd hrn
      clear hg hl hrn
      obtain ⟨K, kc, hkv, hkc, hK, hrow⟩ := HJ.out.kv
      have htl : (ns.take j).length = j := by rw [List.length_take]; have := HLN.out; omega
      rw [htl] at hkv
      subst hkv
      obtain ⟨q11, z11⟩ := HJ.out.cell11
      have HTL := hidd htl
      clear htl hkc hK hrow
      go_wp2_with fail
      go_region_law (first
        | (refine step_append_lies _ rfl (.tmp 34) (.tmp 39) 37 rfl w1.heap.size 45 i0 _ 12 152 Tryd.underlying37 hinf hz0 hz1 hz2 rfl (by decide) (.slice (some ⟨K, 0, none⟩) (j + 1) kc) (j + 1) (rowA len A0 es) rfl (by exact HO5.out.alloc _) ⟨w5.heap.size, 0, none⟩ 1 1 (ocell (L, cap)) rfl rfl (by exact news12 w5 _) (by exact ocell_one _) (by decide) (by unfold maxLen; omega) (by omega) (by have := HJ5.out.hb; simp; omega) (w5.heap.size + 1) (by simp) ?_; intro g gc w6 hown hgrow hat hlt6; have HJ6 := hidd (HJ.out.pushm HTL.out HF.out.1 HF.out.2.1 HF.out.2.2.1 HF.out.2.2.2.1 HF.out.2.2.2.2 hown hgrow hat); obtain ⟨q6, z6⟩ := HJ5.out.grown11 hgrow)
        | (go_simp; go_at_call 15; refine (HNU.out n _).mono ?_; rintro e w3 ⟨rfl, hb3⟩; have HB3 : Hid (Below wr.heap.size wr w3) := (Below.drew (Below.refl _ _)).trans hb3; have q3 := (HJ.out.up HB3.out).cell11.1; have q3a := cell_alloc (.cells #[.int .i64 1, .int .i64 0, .int .i64 n, .string ⟨#[]⟩, .string ⟨#[]⟩, .int .i64 0, .int .i64 0, .string ⟨#[]⟩, .int .i64 0, .int .i64 0, .slice none 0 0, .slice none 0 0] 45) q3; clear hb3; dsimp only)
        | (go_simp; go_at_call 16; refine (HC1.out n _).mono ?_; rintro e w5 ⟨hb5, L, cap, hL, hL5, hcap, rfl, hr5⟩; have HB5 := hidd (HB3.out.trans (hb5.mono HB3.out.size)); have HJ5 := hidd (HJ.out.up HB5.out); have HF : Hid (Below wr.heap.size wr w5 ∧ wr.heap.size ≤ L ∧ L < w5.heap.size ∧ 2 ≤ cap ∧ Rw w5 L 0 (onum n)) := ⟨HB5.out, Nat.le_trans HB3.out.size hL, hL5, hcap, hr5⟩; have HO5 : Hid (w5.ownsRow w1.heap.size 45 12 (.slice (some ⟨K, 0, none⟩) (j + 1) kc) (j + 1) (rowA len A0 es)) := (by have := HJ5.out.row; rw [HTL.out] at this; exact this); have q5 := HJ5.out.cell11.1; have q5a := cell_alloc (.cells #[.int .i64 9, .int .i64 0, .int .i64 0, .string ⟨#[]⟩, .string ⟨#[]⟩, .int .i64 0, .int .i64 0, .string ⟨#[]⟩, .int .i64 0, .int .i64 0, .slice none 0 0, .slice (some ⟨L, 0, none⟩) 2 cap] 45) q5; clear hb5 hL hL5 hcap hr5; dsimp only))
      all_goals
        clear hown hgrow hat hlt6 HO5 HJ5 HF HB5 HB3 HJ q3 q3a q5 q5a
        obtain ⟨W7, hW7⟩ : ∃ W7, W7 = w6.setCell ⟨cB, 11, none⟩ (.slice (some ⟨g, 0, none⟩) (j + 1 + 1) gc) := ⟨_, rfl⟩
        rw [← hW7] at HJ6
        have hw7 := hW7.symm
        clear hW7
        go_wp2_with fail
        refine (HNM.out n _).mono ?_
        rintro e w8 ⟨rfl, hb8⟩
        have HJ8 := hidd (HJ6.out.up hb8)
        have HX8 := hidd (HT1.out w8 HJ8.out.below)
        clear hb8 HJ6
        go_wp2_with fail
        refine (HTX.out n w8 HRN.out HX8.out.2.1 HX8.out.2.2.1).mono ?_
        rintro e w9 ⟨rfl, hb9⟩
        have HJ9 := hidd (HJ8.out.up hb9)
        have HO9 : Hid (w9.ownsRow w1.heap.size 9 1 u4 j ((ns.take j).map fun n => strV (Lib.itoa n))) := by
          have := HJ9.out.want
          rw [HTL.out] at this
          exact this
        clear hb9 HJ8
        go_wp2_with (at_builtin; refine wpList_append_lies rfl _ _ 23 rfl w1.heap.size 9 i1 _ 1 16 Tryd.underlying23 jinf jz0 jz1 jz2 rfl (by decide) u4 j _ rfl (by exact HO9.out.alloc _) ⟨w9.heap.size, 0, none⟩ 1 1 [strV (Lib.itoa n)] rfl rfl (by exact one_news w9 _) (by exact one_one _) (by decide) (by unfold maxLen; omega) (by omega) (by have := HJ9.out.hb; simp; omega) (w9.heap.size + 1) (by simp) ?_; intro g2 gc2 w10 hown2 hgrow2 hat2 hlt2)
        go_roundw
        case rel =>
          refine ⟨j + 1, es ++ [(L, cap)], .slice (some ⟨g, 0, none⟩) (j + 1 + 1) gc, hlt, by go_num, ?_, ?_⟩
          · rw [take_snoc HNN.out]
            exact HJ9.out.pushWm HTL.out hown2 hgrow2 hat2
          · show ∀ m ∈ ns.take (j + 1), rangeN m = true
            rw [take_snoc HNN.out]
            intro m hm
            rcases List.mem_append.1 hm with h | h
            · exact HR.out m h
            · simp at h
              subst h
              exact HRN.out
        case measure => simp [intOf]; omega
    · obtain rfl : j = len := by omega
      have htk : ns.take j = ns := List.take_of_length_le (by rw [HLN.out]; exact Nat.le_refl _)
      rw [htk] at HJ HR
      obtain ⟨K, kc, hkv, hkc, hK, hrow⟩ := HJ.out.kv
      rw [← HLN.out] at hkv
      subst hkv
      have hbx := HJ.out.box
      have c0 : wr.cell? ⟨cB, 0, none⟩ = some (.int .i64 9) := (cellO hbx).trans rfl
      have c1 : wr.cell? ⟨cB, 1, none⟩ = some (.int .i64 0) := (cellO hbx).trans rfl
      have c2 : wr.cell? ⟨cB, 2, none⟩ = some (.int .i64 0) := (cellO hbx).trans rfl
      have c3 : wr.cell? ⟨cB, 3, none⟩ = some (.string ⟨#[]⟩) := (cellO hbx).trans rfl
      have c4 : wr.cell? ⟨cB, 4, none⟩ = some (.string ⟨#[]⟩) := (cellO hbx).trans rfl
      have c5 : wr.cell? ⟨cB, 5, none⟩ = some (.int .i64 0) := (cellO hbx).trans rfl
      have c6 : wr.cell? ⟨cB, 6, none⟩ = some (.int .i64 0) := (cellO hbx).trans rfl
      have c7 : wr.cell? ⟨cB, 7, none⟩ = some (.string ⟨#[]⟩) := (cellO hbx).trans rfl
      have c8 : wr.cell? ⟨cB, 8, none⟩ = some (.int .i64 0) := (cellO hbx).trans rfl
      have c9 : wr.cell? ⟨cB, 9, none⟩ = some (.int .i64 0) := (cellO hbx).trans rfl
      have c10 : wr.cell? ⟨cB, 10, none⟩ = some (.slice none 0 0) := (cellO hbx).trans rfl
      have c11 : wr.cell? ⟨cB, 11, none⟩ = some (.slice (some ⟨K, 0, none⟩) (j + 1) kc) := (cellO hbx).trans rfl
      have HX := hidd (laidL HJ.out HLN.out hle HR.out HX.out.2.1 HX.out.2.2.1)
      unfold cv at HX
      have hwant : wr.ownsRow w1.heap.size 9 1 u4 (ns.map Lib.itoa).length ((ns.map Lib.itoa).map strV) := by
        have := HJ.out.want
        rw [List.length_map, List.map_map]
        exact this
      obtain ⟨a2, c22, hu4, htm⟩ := TM.of hwant
      rw [List.length_map] at hu4 htm
      subst hu4
      have HTM := hidd htm
      have HBW := hidd (HT1.out wr HJ.out.below).1
      clear hkc hK hrow hbx htm hwant HNU HNM HC1 HTX
      go_wp2_with fail
      refine HX.out.mono ?_
      rintro e w6 ⟨hb6, a, n, c, rfl, ht6⟩
      have hs : Below w6.heap.size w6 ((w6.alloc (.cells #[.int .i64 1, .slice a n c] 25)).alloc (.cells #[.int .i64 0, .int .i64 0] 28)) := ((Below.refl _ _).alloc (Nat.le_refl _) _).alloc (by simp) _
      have HSM := hidd (Same_any (ns.map Lib.itoa) a a2 n ns.length c c22 _ (by rw [List.length_map, ← HLN.out]; omega) (ht6.up hs) ((HTM.out.up hb6).up hs))
      have HBS := hidd (HBW.out.trans ((hb6.trans (hs.mono hb6.size)).mono HBW.out.size))
      clear ht6 hb6 hs HX HTM HBW
      go_wp2_with fail
      refine HSM.out.mono ?_
      rintro e w7 ⟨rfl, hb7⟩
      go_wp2_with fail
      go_ret
      exact ⟨rfl, HBS.out.trans (hb7.mono HBS.out.size)⟩
end
end Go.Proofs.YthooljlikllnpaaDoor
