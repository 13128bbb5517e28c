/- Chapter 10's laws: their closed fact. -/
import Derived.Test.YtdnbingddbakaaaDoorK47
namespace Go.Proofs.YtdnbingddbakaaaDoor
set_option linter.unusedVariables false
set_option linter.unusedSimpArgs false
open Go.RowKit

theorem own_at {w : World} {base size n : Nat} {e : TypeId} {v : Value} {xs : List Value} (h : w.ownsRow base e size v n xs) (hn : 0 < n) : ∃ g vc, v = .slice (some ⟨g, 0, none⟩) n vc ∧ n ≤ vc ∧ base ≤ g ∧ g < w.heap.size ∧ v.ownBlock = some g ∧ ∀ j u, xs[j]? = some u → w.cell? ⟨g, j, none⟩ = some u := by
  rcases h.2 with ⟨rfl, rfl⟩ | ⟨g, cap, cur, rfl, hbg, hg, hnc, hcm, hcs, htake⟩
  · omega
  · refine ⟨g, cap, rfl, hnc, hbg, (Array.getElem?_eq_some_iff.1 hg).1, rfl, fun j u hu => ?_⟩
    rw [cellO hg]
    rw [← htake] at hu
    rw [List.getElem?_take] at hu
    split at hu
    · simpa using hu
    · simp at hu
/-- What of the closed fact's image is looked at. -/
theorem alive_at {bv pv sv : Value} {w w' : World} (h : LinkOk us0 bv pv sv w w') : ∃ ba bc pg pc sg sc cb cc, bv = .slice ba 2 bc ∧ pv = .slice (some ⟨pg, 0, none⟩) 2 pc ∧ sv = .slice (some ⟨sg, 0, none⟩) 2 sc ∧ pg < w'.heap.size ∧ sg < w'.heap.size ∧ cb < w'.heap.size ∧ 2 ≤ pc ∧ 2 ≤ sc ∧ 4 ≤ cc ∧
    w'.cell? ⟨sg, 1, none⟩ = some (.int .i64 1) ∧ w'.cell? ⟨pg, 3, none⟩ = some (.slice (some ⟨cb, 0, none⟩) 4 cc) ∧ w'.cell? ⟨cb, 12, none⟩ = some (.int .i64 1) := by
  obtain ⟨ps, ss, h1, h2, h3, h4, h5⟩ := h
  rw [us0_def] at h1 h4
  have e1 : ss = [0, 1] := (congrArg Prod.snd h4).trans (by decide)
  have e2 : ps.map PE.pro = [placeP [(⟨#[109]⟩, ⟨#[120]⟩), (⟨#[110]⟩, ⟨#[120]⟩)] 0 ⟨0, uCode ⟨#[109]⟩⟩, placeP [(⟨#[109]⟩, ⟨#[120]⟩), (⟨#[110]⟩, ⟨#[120]⟩)] 1 ⟨0, uCode ⟨#[110]⟩⟩] := (congrArg Prod.fst h4).trans rfl
  subst e1
  have hl2 : ps.length = 2 := by have := congrArg List.length e2; simpa using this
  obtain ⟨p0, p1, hps⟩ : ∃ p0 p1, ps = [p0, p1] := by
    match ps, hl2 with
    | [p0, p1], _ => exact ⟨p0, p1, rfl⟩
  subst hps
  · simp only [List.map_cons, List.map_nil, List.cons.injEq, and_true] at e2
    have hp1 := e2.2
    have hes : p1.es.map IE.i = (uCode ⟨#[110]⟩).map (placeI [(⟨#[109]⟩, ⟨#[120]⟩), (⟨#[110]⟩, ⟨#[120]⟩)] 1) := congrArg Pro.code hp1
    have hlen : p1.es.length = 4 := by have := congrArg List.length hes; simpa [uCode] using this
    obtain ⟨ba, bc, hb, _⟩ := own_slice h1
    obtain ⟨pg, pc, hpv, hpc, _, hpg, _, hpcell⟩ := own_at h2 (by simp)
    obtain ⟨sg, sc, hsv, hsc, _, hsg, _, hscell⟩ := own_at h3 (by simp)
    obtain ⟨hl, hcode, _⟩ := h5 p1 (by simp)
    rcases hcode with hn | ⟨cb, ha, hcb, hcc⟩
    · rw [hn] at hlen; simp at hlen
    · refine ⟨ba, bc, pg, pc, sg, sc, cb, p1.c, hb, hpv, hsv, hpg, hsg, hcb.2, hpc, hsc, by rw [← hlen]; exact hl, hscell 1 _ rfl, ?_, ?_⟩
      · rw [← hlen, ← ha]
        exact hpcell 3 _ rfl
      · obtain ⟨e, he⟩ : ∃ e, p1.es[1]? = some e := ⟨_, List.getElem?_eq_getElem (by omega)⟩
        have hi : e.i.a = 1 := by
          have := congrArg (fun l => l[1]?) hes
          simp only [List.getElem?_map, he] at this
          have h9 : e.i = placeI [(⟨#[109]⟩, ⟨#[120]⟩), (⟨#[110]⟩, ⟨#[120]⟩)] 1 ⟨13, 0, 0, ⟨#[110]⟩, ⟨#[120]⟩, emD⟩ := by simpa [uCode] using this
          rw [h9]
          decide
        refine hcc 12 _ ?_
        have := flatI_at p1.es 1 1 e he (by decide)
        rw [show 1 * 11 + 1 = 12 from rfl] at this
        rw [this]
        show some (Value.int .i64 e.i.a) = _
        rw [hi]
theorem us0_ul (W2 : World) (a1 a2 : Option Addr) (h1 : PL W2.heap.size W2 a1 (uPros ⟨#[109]⟩)) (h2 : PL W2.heap.size W2 a2 (uPros ⟨#[110]⟩)) : UL (W2.alloc (.cells #[.string ⟨#[109]⟩, .slice a1 1 1, .string ⟨#[110]⟩, .slice a2 1 1] 37)).heap.size (W2.alloc (.cells #[.string ⟨#[109]⟩, .slice a1 1 1, .string ⟨#[110]⟩, .slice a2 1 1] 37)) (some ⟨W2.heap.size, 0, none⟩) us0 := by
  have hn := World.alloc_heap_new W2 (.cells #[.string ⟨#[109]⟩, .slice a1 1 1, .string ⟨#[110]⟩, .slice a2 1 1] 37)
  have hb := (Below.refl W2.heap.size W2).alloc (Nat.le_refl _) (.cells #[.string ⟨#[109]⟩, .slice a1 1 1, .string ⟨#[110]⟩, .slice a2 1 1] 37)
  refine Or.inr ⟨W2.heap.size, 0, rfl, by simp, fun i u hu => ?_⟩
  match i, hu with
  | 0, hu =>
    simp [us0] at hu
    subst hu
    exact ⟨a1, 1, (cellO hn).trans rfl, (cellO hn).trans rfl, Nat.le_refl _, (show (⟨#[109]⟩ : ByteArray).size ≤ maxLen by decide), (h1.below hb).mono hb.size⟩
  | 1, hu =>
    simp [us0] at hu
    subst hu
    exact ⟨a2, 1, (cellO hn).trans rfl, (cellO hn).trans rfl, Nat.le_refl _, (show (⟨#[110]⟩ : ByteArray).size ≤ maxLen by decide), (h2.below hb).mono hb.size⟩
  | i + 2, hu => simp [us0] at hu
set_option maxRecDepth 100000 in
set_option maxHeartbeats 3200000 in
theorem alive10_any (w : World) (htab : TabS w) : Calls Tryd.prog 10 #[] w fun e w' => e = .returned (.bool true) ∧ Below w.heap.size w w' := by
  have HTAB := hidd htab
  clear htab
  go_enter Tryd.func10, Tryd.ntmps10
  go_wp2_with fail
  refine (unit20_any ⟨#[109]⟩ (by decide) w).mono ?_
  rintro e W1 ⟨⟨a1, rfl, hp1⟩, s1⟩
  have HP1 := hidd hp1
  have HS1 := hidd s1
  clear hp1 s1
  go_wp2_with fail
  refine (unit20_any ⟨#[110]⟩ (by decide) W1).mono ?_
  rintro e W2 ⟨⟨a2, rfl, hp2⟩, s2⟩
  have hb2 := (Below.refl W2.heap.size W2).alloc (Nat.le_refl _) (.cells #[.string ⟨#[109]⟩, .slice a1 1 1, .string ⟨#[110]⟩, .slice a2 1 1] 37)
  have hb02 := HS1.out.trans (s2.mono HS1.out.size)
  have hb03 := hb02.trans (hb2.mono hb02.size)
  have LK0 := Link_any us0 (some ⟨W2.heap.size, 0, none⟩) 2 (W2.alloc (.cells #[.string ⟨#[109]⟩, .slice a1 1 1, .string ⟨#[110]⟩, .slice a2 1 1] 37)) (us0_ul W2 a1 a2 ((HP1.out.below s2).mono s2.size) hp2) (by decide) (HTAB.out.below hb03) (by decide) (by decide)
  rw [show us0.length = 2 from rfl] at LK0
  have LK := hidd LK0
  have HB3 := hidd hb03
  clear hp2 s2 hb2 hb02 hb03 LK0
  go_wp2_with fail
  refine LK.out.mono ?_
  rintro e W3 ⟨bv, pv, sv, rfl, s3, _, hok⟩
  obtain ⟨ba, bc, pg, pc, sg, sc, cb, cc, rfl, rfl, rfl, hpg, hsg, hcb, hpc, hsc, hcc, k1, k2, k3⟩ := alive_at (hok (by rw [us0_link]))
  rw [us0_link]
  unfold fv
  have ba2 := ((Below.refl W3.heap.size W3).alloc (Nat.le_refl _) (.cells #[.slice ba 2 bc, .slice (some ⟨pg, 0, none⟩) 2 pc, .slice (some ⟨sg, 0, none⟩) 2 sc] 27)).alloc (by simp) (.cells #[.int .i64 0, .int .i64 0] 30)
  have j1 := (ba2.cell (p := ⟨sg, 1, none⟩) hsg).trans k1
  have j2 := (ba2.cell (p := ⟨pg, 3, none⟩) hpg).trans k2
  have j3 := (ba2.cell (p := ⟨cb, 12, none⟩) hcb).trans k3
  have n1 : ((W3.alloc (.cells #[.slice ba 2 bc, .slice (some ⟨pg, 0, none⟩) 2 pc, .slice (some ⟨sg, 0, none⟩) 2 sc] 27)).alloc (.cells #[.int .i64 0, .int .i64 0] 30)).heap[W3.heap.size]? = some (.cells #[.slice ba 2 bc, .slice (some ⟨pg, 0, none⟩) 2 pc, .slice (some ⟨sg, 0, none⟩) 2 sc] 27 (0, 0)) := (Below.heap_alloc _ _ _ (by simp)).trans (World.alloc_heap_new W3 _)
  have n2 : ((W3.alloc (.cells #[.slice ba 2 bc, .slice (some ⟨pg, 0, none⟩) 2 pc, .slice (some ⟨sg, 0, none⟩) 2 sc] 27)).alloc (.cells #[.int .i64 0, .int .i64 0] 30)).heap[W3.heap.size + 1]? = some (.cells #[.int .i64 0, .int .i64 0] 30 (0, 0)) := by
    have := World.alloc_heap_new (W3.alloc (.cells #[.slice ba 2 bc, .slice (some ⟨pg, 0, none⟩) 2 pc, .slice (some ⟨sg, 0, none⟩) 2 sc] 27)) (.cells #[.int .i64 0, .int .i64 0] 30)
    simpa using this
  have HBE := hidd (HB3.out.trans ((s3.trans (ba2.mono s3.size)).mono HB3.out.size))
  clear hok k1 k2 k3 s3 ba2 LK
  go_upto_region 2 with fail
  generalize ((W3.alloc (.cells #[.slice ba 2 bc, .slice (some ⟨pg, 0, none⟩) 2 pc, .slice (some ⟨sg, 0, none⟩) 2 sc] 27)).alloc (.cells #[.int .i64 0, .int .i64 0] 30)) = V at j1 j2 j3 n1 n2 HBE ⊢
  have y0 : V.cell? ⟨W3.heap.size, 0, none⟩ = some (.slice ba 2 bc) := (cellO n1).trans rfl
  have y1 : V.cell? ⟨W3.heap.size, 1, none⟩ = some (.slice (some ⟨pg, 0, none⟩) 2 pc) := (cellO n1).trans rfl
  have y2 : V.cell? ⟨W3.heap.size, 2, none⟩ = some (.slice (some ⟨sg, 0, none⟩) 2 sc) := (cellO n1).trans rfl
  have y3 : V.cell? ⟨W3.heap.size + 1, 0, none⟩ = some (.int .i64 0) := (cellO n2).trans rfl
  clear n1 n2
  go_wp2_with fail
  go_ret
  exact ⟨rfl, HBE.out⟩
end Go.Proofs.YtdnbingddbakaaaDoor
