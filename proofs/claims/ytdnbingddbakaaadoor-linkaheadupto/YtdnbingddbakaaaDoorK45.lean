/- Chapter 10's laws: their closed fact. Chapter 10, plainly: what stands ahead stays. -/
import Derived.Test.YtdnbingddbakaaaDoorK44
namespace Go.Proofs.YtdnbingddbakaaaDoor
section
set_option linter.unusedVariables false
set_option linter.unusedSimpArgs false
open Go.RowKit

theorem own_at {w : World} {base size n : Nat} {e : TypeId} {v : Value} {xs : List Value} (h : w.ownsRow base e size v n xs) (hn : 0 < n) : ∃ g vc, v = .slice (some ⟨g, 0, none⟩) n vc ∧ n ≤ vc ∧ base ≤ g ∧ g < w.heap.size ∧ v.ownBlock = some g ∧ ∀ j u, xs[j]? = some u → w.cell? ⟨g, j, none⟩ = some u := by
  rcases h.2 with ⟨rfl, rfl⟩ | ⟨g, cap, cur, rfl, hbg, hg, hnc, hcm, hcs, htake⟩
  · omega
  · refine ⟨g, cap, rfl, hnc, hbg, (Array.getElem?_eq_some_iff.1 hg).1, rfl, fun j u hu => ?_⟩
    rw [cellO hg]
    rw [← htake] at hu
    rw [List.getElem?_take] at hu
    split at hu
    · simpa using hu
    · simp at hu
/-- What of the closed fact's image is looked at. -/
theorem alive_at {bv pv sv : Value} {w w' : World} (h : LinkOk us0 bv pv sv w w') : ∃ ba bc pg pc sg sc cb cc, bv = .slice ba 2 bc ∧ pv = .slice (some ⟨pg, 0, none⟩) 2 pc ∧ sv = .slice (some ⟨sg, 0, none⟩) 2 sc ∧ pg < w'.heap.size ∧ sg < w'.heap.size ∧ cb < w'.heap.size ∧ 2 ≤ pc ∧ 2 ≤ sc ∧ 4 ≤ cc ∧
    w'.cell? ⟨sg, 1, none⟩ = some (.int .i64 1) ∧ w'.cell? ⟨pg, 3, none⟩ = some (.slice (some ⟨cb, 0, none⟩) 4 cc) ∧ w'.cell? ⟨cb, 12, none⟩ = some (.int .i64 1) := by
  obtain ⟨ps, ss, h1, h2, h3, h4, h5⟩ := h
  rw [us0_def] at h1 h4
  have e1 : ss = [0, 1] := (congrArg Prod.snd h4).trans (by decide)
  have e2 : ps.map PE.pro = [placeP [(⟨#[109]⟩, ⟨#[120]⟩), (⟨#[110]⟩, ⟨#[120]⟩)] 0 ⟨0, uCode ⟨#[109]⟩⟩, placeP [(⟨#[109]⟩, ⟨#[120]⟩), (⟨#[110]⟩, ⟨#[120]⟩)] 1 ⟨0, uCode ⟨#[110]⟩⟩] := (congrArg Prod.fst h4).trans rfl
  subst e1
  have hl2 : ps.length = 2 := by have := congrArg List.length e2; simpa using this
  obtain ⟨p0, p1, hps⟩ : ∃ p0 p1, ps = [p0, p1] := by
    match ps, hl2 with
    | [p0, p1], _ => exact ⟨p0, p1, rfl⟩
  subst hps
  · simp only [List.map_cons, List.map_nil, List.cons.injEq, and_true] at e2
    have hp1 := e2.2
    have hes : p1.es.map IE.i = (uCode ⟨#[110]⟩).map (placeI [(⟨#[109]⟩, ⟨#[120]⟩), (⟨#[110]⟩, ⟨#[120]⟩)] 1) := congrArg Pro.code hp1
    have hlen : p1.es.length = 4 := by have := congrArg List.length hes; simpa [uCode] using this
    obtain ⟨ba, bc, hb, _⟩ := own_slice h1
    obtain ⟨pg, pc, hpv, hpc, _, hpg, _, hpcell⟩ := own_at h2 (by simp)
    obtain ⟨sg, sc, hsv, hsc, _, hsg, _, hscell⟩ := own_at h3 (by simp)
    obtain ⟨hl, hcode, _⟩ := h5 p1 (by simp)
    rcases hcode with hn | ⟨cb, ha, hcb, hcc⟩
    · rw [hn] at hlen; simp at hlen
    · refine ⟨ba, bc, pg, pc, sg, sc, cb, p1.c, hb, hpv, hsv, hpg, hsg, hcb.2, hpc, hsc, by rw [← hlen]; exact hl, hscell 1 _ rfl, ?_, ?_⟩
      · rw [← hlen, ← ha]
        exact hpcell 3 _ rfl
      · obtain ⟨e, he⟩ : ∃ e, p1.es[1]? = some e := ⟨_, List.getElem?_eq_getElem (by omega)⟩
        have hi : e.i.a = 1 := by
          have := congrArg (fun l => l[1]?) hes
          simp only [List.getElem?_map, he] at this
          have h9 : e.i = placeI [(⟨#[109]⟩, ⟨#[120]⟩), (⟨#[110]⟩, ⟨#[120]⟩)] 1 ⟨13, 0, 0, ⟨#[110]⟩, ⟨#[120]⟩, emD⟩ := by simpa [uCode] using this
          rw [h9]
          decide
        refine hcc 12 _ ?_
        have := flatI_at p1.es 1 1 e he (by decide)
        rw [show 1 * 11 + 1 = 12 from rfl] at this
        rw [this]
        show some (Value.int .i64 e.i.a) = _
        rw [hi]
theorem us0_ul (W2 : World) (a1 a2 : Option Addr) (h1 : PL W2.heap.size W2 a1 (uPros ⟨#[109]⟩)) (h2 : PL W2.heap.size W2 a2 (uPros ⟨#[110]⟩)) : UL (W2.alloc (.cells #[.string ⟨#[109]⟩, .slice a1 1 1, .string ⟨#[110]⟩, .slice a2 1 1] 37)).heap.size (W2.alloc (.cells #[.string ⟨#[109]⟩, .slice a1 1 1, .string ⟨#[110]⟩, .slice a2 1 1] 37)) (some ⟨W2.heap.size, 0, none⟩) us0 := by
  have hn := World.alloc_heap_new W2 (.cells #[.string ⟨#[109]⟩, .slice a1 1 1, .string ⟨#[110]⟩, .slice a2 1 1] 37)
  have hb := (Below.refl W2.heap.size W2).alloc (Nat.le_refl _) (.cells #[.string ⟨#[109]⟩, .slice a1 1 1, .string ⟨#[110]⟩, .slice a2 1 1] 37)
  refine Or.inr ⟨W2.heap.size, 0, rfl, by simp, fun i u hu => ?_⟩
  match i, hu with
  | 0, hu =>
    simp [us0] at hu
    subst hu
    exact ⟨a1, 1, (cellO hn).trans rfl, (cellO hn).trans rfl, Nat.le_refl _, (show (⟨#[109]⟩ : ByteArray).size ≤ maxLen by decide), (h1.below hb).mono hb.size⟩
  | 1, hu =>
    simp [us0] at hu
    subst hu
    exact ⟨a2, 1, (cellO hn).trans rfl, (cellO hn).trans rfl, Nat.le_refl _, (show (⟨#[110]⟩ : ByteArray).size ≤ maxLen by decide), (h2.below hb).mono hb.size⟩
  | i + 2, hu => simp [us0] at hu
set_option maxRecDepth 100000 in
set_option maxHeartbeats 3200000 in
theorem alive10_any (w : World) (htab : TabS w) : Calls Tryd.prog 10 #[] w fun e w' => e = .returned (.bool true) ∧ Below w.heap.size w w' := by
  have HTAB := hidd htab
  clear htab
  go_enter Tryd.func10, Tryd.ntmps10
  go_wp2_with fail
  refine (unit20_any ⟨#[109]⟩ (by decide) w).mono ?_
  rintro e W1 ⟨⟨a1, rfl, hp1⟩, s1⟩
  have HP1 := hidd hp1
  have HS1 := hidd s1
  clear hp1 s1
  go_wp2_with fail
  refine (unit20_any ⟨#[110]⟩ (by decide) W1).mono ?_
  rintro e W2 ⟨⟨a2, rfl, hp2⟩, s2⟩
  have hb2 := (Below.refl W2.heap.size W2).alloc (Nat.le_refl _) (.cells #[.string ⟨#[109]⟩, .slice a1 1 1, .string ⟨#[110]⟩, .slice a2 1 1] 37)
  have hb02 := HS1.out.trans (s2.mono HS1.out.size)
  have hb03 := hb02.trans (hb2.mono hb02.size)
  have LK0 := Link_any us0 (some ⟨W2.heap.size, 0, none⟩) 2 (W2.alloc (.cells #[.string ⟨#[109]⟩, .slice a1 1 1, .string ⟨#[110]⟩, .slice a2 1 1] 37)) (us0_ul W2 a1 a2 ((HP1.out.below s2).mono s2.size) hp2) (by decide) (HTAB.out.below hb03) (by decide) (by decide)
  rw [show us0.length = 2 from rfl] at LK0
  have LK := hidd LK0
  have HB3 := hidd hb03
  clear hp2 s2 hb2 hb02 hb03 LK0
  go_wp2_with fail
  refine LK.out.mono ?_
  rintro e W3 ⟨bv, pv, sv, rfl, s3, _, hok⟩
  obtain ⟨ba, bc, pg, pc, sg, sc, cb, cc, rfl, rfl, rfl, hpg, hsg, hcb, hpc, hsc, hcc, k1, k2, k3⟩ := alive_at (hok (by rw [us0_link]))
  rw [us0_link]
  unfold fv
  have ba2 := ((Below.refl W3.heap.size W3).alloc (Nat.le_refl _) (.cells #[.slice ba 2 bc, .slice (some ⟨pg, 0, none⟩) 2 pc, .slice (some ⟨sg, 0, none⟩) 2 sc] 27)).alloc (by simp) (.cells #[.int .i64 0, .int .i64 0] 30)
  have j1 := (ba2.cell (p := ⟨sg, 1, none⟩) hsg).trans k1
  have j2 := (ba2.cell (p := ⟨pg, 3, none⟩) hpg).trans k2
  have j3 := (ba2.cell (p := ⟨cb, 12, none⟩) hcb).trans k3
  have n1 : ((W3.alloc (.cells #[.slice ba 2 bc, .slice (some ⟨pg, 0, none⟩) 2 pc, .slice (some ⟨sg, 0, none⟩) 2 sc] 27)).alloc (.cells #[.int .i64 0, .int .i64 0] 30)).heap[W3.heap.size]? = some (.cells #[.slice ba 2 bc, .slice (some ⟨pg, 0, none⟩) 2 pc, .slice (some ⟨sg, 0, none⟩) 2 sc] 27 (0, 0)) := (Below.heap_alloc _ _ _ (by simp)).trans (World.alloc_heap_new W3 _)
  have n2 : ((W3.alloc (.cells #[.slice ba 2 bc, .slice (some ⟨pg, 0, none⟩) 2 pc, .slice (some ⟨sg, 0, none⟩) 2 sc] 27)).alloc (.cells #[.int .i64 0, .int .i64 0] 30)).heap[W3.heap.size + 1]? = some (.cells #[.int .i64 0, .int .i64 0] 30 (0, 0)) := by
    have := World.alloc_heap_new (W3.alloc (.cells #[.slice ba 2 bc, .slice (some ⟨pg, 0, none⟩) 2 pc, .slice (some ⟨sg, 0, none⟩) 2 sc] 27)) (.cells #[.int .i64 0, .int .i64 0] 30)
    simpa using this
  have HBE := hidd (HB3.out.trans ((s3.trans (ba2.mono s3.size)).mono HB3.out.size))
  clear hok k1 k2 k3 s3 ba2 LK
  go_upto_region 2 with fail
  generalize ((W3.alloc (.cells #[.slice ba 2 bc, .slice (some ⟨pg, 0, none⟩) 2 pc, .slice (some ⟨sg, 0, none⟩) 2 sc] 27)).alloc (.cells #[.int .i64 0, .int .i64 0] 30)) = V at j1 j2 j3 n1 n2 HBE ⊢
  have y0 : V.cell? ⟨W3.heap.size, 0, none⟩ = some (.slice ba 2 bc) := (cellO n1).trans rfl
  have y1 : V.cell? ⟨W3.heap.size, 1, none⟩ = some (.slice (some ⟨pg, 0, none⟩) 2 pc) := (cellO n1).trans rfl
  have y2 : V.cell? ⟨W3.heap.size, 2, none⟩ = some (.slice (some ⟨sg, 0, none⟩) 2 sc) := (cellO n1).trans rfl
  have y3 : V.cell? ⟨W3.heap.size + 1, 0, none⟩ = some (.int .i64 0) := (cellO n2).trans rfl
  clear n1 n2
  go_wp2_with fail
  go_ret
  exact ⟨rfl, HBE.out⟩
end
section
set_option linter.unusedVariables false
set_option linter.unusedSimpArgs false
open Go.RowKit

theorem addG_ahead (gs : List Gl) (s : Gl) : ∃ ex, addG gs s = gs ++ ex := by
  unfold addG
  split
  · exact ⟨[], by simp⟩
  · exact ⟨[s], rfl⟩
theorem defGs_ahead : ∀ (xs : List In) (gs : List Gl), ∃ ex, defGs gs xs = gs ++ ex
  | [], gs => ⟨[], by simp [defGs]⟩
  | x :: r, gs => by
    have e : defGs gs (x :: r) = defGs (defG gs x) r := rfl
    obtain ⟨e1, h1⟩ : ∃ ex, defG gs x = gs ++ ex := by
      unfold defG
      split
      · exact addG_ahead gs _
      · exact ⟨[], by simp⟩
    obtain ⟨e2, h2⟩ := defGs_ahead r (defG gs x)
    exact ⟨e1 ++ e2, by rw [e, h2, h1, List.append_assoc]⟩
theorem allI_app (a b : List Un) : allI (a ++ b) = allI a ++ allI b := by simp [allI]
theorem defAll_app (us more : List Un) : defAll (us ++ more) (us ++ more).length = defGs (defAll us us.length) (allI more) := by
  unfold defAll
  rw [List.take_length, List.take_length, allI_app, defGs_app]
theorem place_same {gs gs' : List Gl} {x : In} (h : x.op = 5 ∨ x.op = 12 ∨ x.op = 13 → idxG gs' (x.lib, x.own) = idxG gs (x.lib, x.own)) (st : Nat) : placeI gs' st x = placeI gs st x := by
  unfold placeI
  by_cases h5 : x.op = 5 ∨ x.op = 12 ∨ x.op = 13
  · rw [h h5]
  · rw [if_neg h5, if_neg h5]
theorem imgS_same {gs gs' : List Gl} : ∀ (us : List Un), (∀ x ∈ allI us, ∀ st, placeI gs' st x = placeI gs st x) → ∀ acc, us.foldl (imgStep gs') acc = us.foldl (imgStep gs) acc
  | [], _, acc => rfl
  | u :: r, h, acc => by
    rw [List.foldl_cons, List.foldl_cons]
    have e : imgStep gs' acc u = imgStep gs acc u := by
      unfold imgStep
      have : u.2.map (placeP gs' acc.1.length) = u.2.map (placeP gs acc.1.length) := List.map_congr_left fun P hP => by
        unfold placeP
        have : P.code.map (placeI gs' acc.1.length) = P.code.map (placeI gs acc.1.length) := List.map_congr_left fun x hx => h x (by simp only [allI, List.mem_flatMap]; exact ⟨u, by simp, P, hP, hx⟩) _
        rw [this]
      rw [this]
    rw [e]
    exact imgS_same r (fun x hx st => h x (by rw [show u :: r = [u] ++ r from rfl, allI_app]; exact List.mem_append_right _ hx) st) _
theorem imgS_more (gs : List Gl) : ∀ (us : List Un) (acc : List Pro × List Int), ∃ qs, (us.foldl (imgStep gs) acc).1 = acc.1 ++ qs
  | [], acc => ⟨[], by simp⟩
  | u :: r, acc => by
    obtain ⟨qs, hq⟩ := imgS_more gs r (imgStep gs acc u)
    rw [List.foldl_cons, hq]
    exact ⟨u.2.map (placeP gs acc.1.length) ++ qs, by simp [imgStep]⟩
theorem linkF_ok {us : List Un} (h : (linkF us).1 = 0) : us.length ≤ 40 ∧ (fstF (unitE us) 0 us.length).1 = 0 ∧ (defAll us us.length).length ≤ 500 ∧ (fstF (unitU (defAll us us.length) us) 0 us.length).1 = 0 := by
  unfold linkF at h
  by_cases h1 : 40 < us.length
  · rw [if_pos h1] at h; simp at h
  rw [if_neg h1] at h
  by_cases h2 : (fstF (unitE us) 0 us.length).1 = 0
  · rw [if_pos h2] at h
    by_cases h3 : 500 < (defAll us us.length).length
    · rw [if_pos h3] at h; simp at h
    · rw [if_neg h3] at h
      by_cases h4 : (fstF (unitU (defAll us us.length) us) 0 us.length).1 = 0
      · exact ⟨by omega, h2, by omega, h4⟩
      · rw [if_neg h4] at h; exact absurd h h4
  · rw [if_neg h2] at h; exact absurd h h2
/-- Each global that linked units speak of has a number. -/
theorem link_known {us : List Un} (h : (linkF us).1 = 0) {x : In} (hx : x ∈ allI us) (ho : x.op = 5 ∨ x.op = 12 ∨ x.op = 13) : ∃ i, idxG (defAll us us.length) (x.lib, x.own) = some i := by
  obtain ⟨_, _, _, h4⟩ := linkF_ok h
  by_cases h13 : x.op = 13
  · obtain ⟨k, hk⟩ := List.mem_iff_getElem?.1 hx
    obtain ⟨i, hi, _⟩ := def_number hk h13
    refine ⟨i, ?_⟩
    unfold defAll
    rw [List.take_length]
    exact hi
  · unfold allI at hx
    obtain ⟨u, hu, hxu⟩ := List.mem_flatMap.1 hx
    obtain ⟨j, hj⟩ := List.mem_iff_getElem?.1 hu
    have h5 := fstF_zero us.length 0 h4 j (Nat.zero_le _) (by have := (List.getElem?_eq_some_iff.1 hj).1; omega)
    rw [unitU_at hj] at h5
    unfold useU at h5
    obtain ⟨k, hk⟩ := List.mem_iff_getElem?.1 hxu
    have h6 := fstE_zero _ 0 h5 k (Nat.zero_le _) (by have := (List.getElem?_eq_some_iff.1 hk).1; omega)
    rw [insU_at hk] at h6
    unfold useE at h6
    rw [if_pos (by omega)] at h6
    by_cases h7 : (idxG (defAll us us.length) (x.lib, x.own)).isSome = true
    · exact Option.isSome_iff_exists.1 h7
    · rw [if_neg h7] at h6; simp at h6
/-- WHAT STANDS AHEAD STAYS. -/
theorem link_ahead {us more : List Un} (h : (linkF us).1 = 0) : (∃ ex, defAll (us ++ more) (us ++ more).length = defAll us us.length ++ ex) ∧
    ∃ qs, (imgS (defAll (us ++ more) (us ++ more).length) (us ++ more)).1 = (imgS (defAll us us.length) us).1 ++ qs := by
  refine ⟨?_, ?_⟩
  · rw [defAll_app]; exact defGs_ahead _ _
  · have e : imgS (defAll (us ++ more) (us ++ more).length) us = imgS (defAll us us.length) us := by
      unfold imgS
      refine imgS_same us (fun x hx st => place_same (fun ho => ?_) st) _
      obtain ⟨i, hi⟩ := link_known h hx ho
      rw [hi, defAll_app]
      exact idxG_def _ _ _ _ hi
    have e2 : imgS (defAll (us ++ more) (us ++ more).length) (us ++ more) = more.foldl (imgStep (defAll (us ++ more) (us ++ more).length)) (imgS (defAll (us ++ more) (us ++ more).length) us) := by
      unfold imgS
      rw [List.foldl_append]
    rw [e2, e]
    exact imgS_more _ _ _
theorem PL.ahead {B : Nat} {w : World} {a : Option Addr} {l r : List Pro} (h : PL B w a (l ++ r)) : PL B w a l := by
  rcases h with h | ⟨b, o, ha, hb, h⟩
  · simp at h; exact Or.inl h.1
  · exact Or.inr ⟨b, o, ha, hb, fun i p hp => h i p (by rw [List.getElem?_append_left (List.getElem?_eq_some_iff.1 hp).1]; exact hp)⟩
theorem flatP_atY : ∀ (l : List PE) (i r : Nat) (e : PE), l[i]? = some e → r < 2 → (flatP l)[i * 2 + r]? = e.cells[r]?
  | [], i, r, e, h, _ => by simp at h
  | x :: t, 0, r, e, h, hr => by
    simp at h
    subst h
    rw [flatP_cons, Nat.zero_mul, Nat.zero_add, List.getElem?_append_left (by simp [PE.cells]; exact hr)]
  | x :: t, i + 1, r, e, h, hr => by
    simp at h
    rw [flatP_cons, List.getElem?_append_right (by simp [PE.cells]; omega), show x.cells.length = 2 from rfl, show (i + 1) * 2 + r - 2 = i * 2 + r by omega]
    exact flatP_atY t i r e h hr
/-- An image's procedures, as procedures in memory. -/
theorem image_pl {w : World} {base : Nat} {ok : Nat → Prop} {pv : Value} {ps : List PE} (h : w.ownsRow base 46 2 pv ps.length (flatP ps)) (hok : ∀ p ∈ ps, p.Ok ok w) (hw : ∀ b, ok b → b < w.heap.size) :
    ∃ pa pc, pv = .slice pa ps.length pc ∧ ps.length ≤ pc ∧ PL w.heap.size w pa (ps.map PE.pro) := by
  by_cases h0 : ps = []
  · obtain ⟨pa, pc, h1, h2⟩ := own_slice h
    exact ⟨pa, pc, h1, h2, Or.inl (by rw [h0]; rfl)⟩
  · obtain ⟨g, pc, h1, h2, _, h4, _, h6⟩ := own_at h (List.length_pos_iff.2 h0)
    refine ⟨_, pc, h1, h2, Or.inr ⟨g, 0, rfl, h4, fun i p hp => ?_⟩⟩
    rw [List.getElem?_map] at hp
    obtain ⟨e, he, rfl⟩ := Option.map_eq_some_iff.1 hp
    obtain ⟨k1, k2, k3⟩ := hok e (List.mem_of_getElem? he)
    refine ⟨e.a, e.c, ?_, ?_, by simpa [PE.pro] using k1, ?_⟩
    · rw [Nat.zero_add]
      exact h6 (i * 2) _ ((flatP_atY ps i 0 e he (by decide)).trans rfl)
    · rw [Nat.zero_add]
      refine h6 (i * 2 + 1) _ ((flatP_atY ps i 1 e he (by decide)).trans ?_)
      simp [PE.cells, PE.pro]
    · rcases k2 with k2 | ⟨b, ha, hb, k2⟩
      · exact Or.inl (by simp [PE.pro, k2])
      · refine Or.inr ⟨b, 0, ha, hw b hb, fun k x hx => ?_⟩
        simp only [PE.pro] at hx
        rw [List.getElem?_map] at hx
        obtain ⟨y, hy, rfl⟩ := Option.map_eq_some_iff.1 hx
        obtain ⟨l1, l2, l3, l4, f, l5⟩ := k3 y (List.mem_of_getElem? hy)
        have c : ∀ r, r < 11 → w.cell? ⟨b, 0 + k * 11 + r, none⟩ = y.cells[r]? := fun r hr => by
          have h1 := flatI_at e.es k r y hy hr
          have h2 : r < y.cells.length := by rw [IE.len]; exact hr
          rw [List.getElem?_eq_getElem h2] at h1 ⊢
          rw [Nat.zero_add]
          exact k2 _ _ h1
        refine ⟨y.qa, y.qc, c 0 (by decide), c 1 (by decide), c 2 (by decide), c 3 (by decide), c 4 (by decide), c 5 (by decide), c 6 (by decide), c 7 (by decide), c 8 (by decide), c 9 (by decide), c 10 (by decide), l1, l2, l3, l4, f, ?_⟩
        exact Dc.stay (fun _ _ => rfl) hw f _ _ l5
end
end Go.Proofs.YtdnbingddbakaaaDoor
