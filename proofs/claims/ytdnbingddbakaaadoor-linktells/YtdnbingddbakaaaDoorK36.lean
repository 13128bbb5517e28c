/- Chapter 10: WHAT Link TELLS. -/
import Derived.Test.YtdnbingddbakaaaDoorK35
namespace Go.Proofs.YtdnbingddbakaaaDoor
set_option linter.unusedVariables false
set_option linter.unusedSimpArgs false
open Go.RowKit

/-- WHAT IS WRONG WITH UNITS, and with which. -/
def linkF (us : List Un) : Int × Int :=
  if 40 < us.length then (5, 0)
  else if (fstF (unitE us) 0 us.length).1 = 0 then
    (if 500 < (defAll us us.length).length then (4, 0)
     else if (fstF (unitU (defAll us us.length) us) 0 us.length).1 = 0 then (0, 0) else fstF (unitU (defAll us us.length) us) 0 us.length)
  else fstF (unitE us) 0 us.length
theorem fstF_zero {er : Nat → Int} : ∀ (n k : Nat), (fstF er k n).1 = 0 → ∀ i, k ≤ i → i < k + n → er i = 0
  | 0, k, _, i, h1, h2 => absurd h1 (by omega)
  | n + 1, k, h, i, h1, h2 => by
    rw [fstF] at h
    by_cases h0 : er k = 0
    · rw [if_pos h0] at h
      by_cases e : i = k
      · rw [e]; exact h0
      · exact fstF_zero n (k + 1) h i (by omega) (by omega)
    · rw [if_neg h0] at h
      exact absurd h h0
theorem all_right {us : List Un} (h : (fstF (unitE us) 0 us.length).1 = 0) : ∀ u ∈ us, Right u.1 u.2 := fun u hu => by
  obtain ⟨i, hi⟩ := List.mem_iff_getElem?.1 hu
  have h1 := fstF_zero us.length 0 h i (Nat.zero_le _) (by have := (List.getElem?_eq_some_iff.1 hi).1; omega)
  rw [unitE_at hi] at h1
  exact right_of (defU_right h1)
def fin5 (W : World) (N2 N3 : Nat) (x0 x1 x2 f0 f1 : Value) : World := ((((W.setCell ⟨N2, 0, none⟩ x0).setCell ⟨N2, 1, none⟩ x1).setCell ⟨N2, 2, none⟩ x2).setCell ⟨N3, 0, none⟩ f0).setCell ⟨N3, 1, none⟩ f1
theorem fin5_at {W : World} {N2 N3 : Nat} (hne : N2 ≠ N3) (h2 : W.heap[N2]? = some (.cells #[.slice none 0 0, .slice none 0 0, .slice none 0 0] 27 (0, 0))) (h3 : W.heap[N3]? = some (.cells #[.int .i64 0, .int .i64 0] 30 (0, 0))) (x0 x1 x2 f0 f1 : Value) :
    (fin5 W N2 N3 x0 x1 x2 f0 f1).heap[N2]? = some (.cells #[x0, x1, x2] 27 (0, 0)) ∧ (fin5 W N2 N3 x0 x1 x2 f0 f1).heap[N3]? = some (.cells #[f0, f1] 30 (0, 0)) ∧
    (∀ b, b ≠ N2 → b ≠ N3 → (fin5 W N2 N3 x0 x1 x2 f0 f1).heap[b]? = W.heap[b]?) ∧ (fin5 W N2 N3 x0 x1 x2 f0 f1).heap.size = W.heap.size := by
  have a0 := three_at2 (three_at1 (three_at0 h2 x0) x1) x2
  have ot : ∀ (U : World) (q : Nat) (v : Value) (b c : Nat), b ≠ c → (U.setCell ⟨c, q, none⟩ v).heap[b]? = U.heap[b]? := fun U q v b c h => Below.heap_setCell _ _ _ _ h
  have a3 : (((W.setCell ⟨N2, 0, none⟩ x0).setCell ⟨N2, 1, none⟩ x1).setCell ⟨N2, 2, none⟩ x2).heap[N3]? = some (.cells #[.int .i64 0, .int .i64 0] 30 (0, 0)) := by
    rw [ot _ _ _ _ _ hne.symm, ot _ _ _ _ _ hne.symm, ot _ _ _ _ _ hne.symm]; exact h3
  refine ⟨?_, two_at1 (two_at0 a3 f0) f1, fun b h1 h2 => ?_, by simp [fin5, World.setCell]⟩
  · unfold fin5
    rw [ot _ _ _ _ _ hne, ot _ _ _ _ _ hne]; exact a0
  · unfold fin5
    rw [ot _ _ _ _ _ h2, ot _ _ _ _ _ h2, ot _ _ _ _ _ h1, ot _ _ _ _ _ h1, ot _ _ _ _ _ h1]
theorem fin5_below {B : Nat} {w W : World} (h : Below B w W) {N2 N3 : Nat} (h2 : B ≤ N2) (h3 : B ≤ N3) (x0 x1 x2 f0 f1 : Value) : Below B w (fin5 W N2 N3 x0 x1 x2 f0 f1) :=
  ((((h.setCell (p := ⟨N2, 0, none⟩) h2 x0).setCell (p := ⟨N2, 1, none⟩) h2 x1).setCell (p := ⟨N2, 2, none⟩) h2 x2).setCell (p := ⟨N3, 0, none⟩) h3 f0).setCell (p := ⟨N3, 1, none⟩) h3 f1
theorem ret7 {ts : Array Value} {W : World} {N2 N3 : Nat} {x0 x1 x2 f0 f1 : Value} (h2 : W.heap[N2]? = some (.cells #[x0, x1, x2] 27 (0, 0))) (h3 : W.heap[N3]? = some (.cells #[f0, f1] 30 (0, 0))) (e2 : ts[2]? = some (.pointer (some ⟨N2, 0, none⟩))) (e3 : ts[3]? = some (.pointer (some ⟨N3, 0, none⟩))) :
    (results Tryd.f7 ts).run Tryd.prog W = .ok (.tuple #[.agg #[x0, x1, x2], .agg #[f0, f1]]) W := by
  have cc : ∀ q, W.cell? ⟨N2, q, none⟩ = #[x0, x1, x2][q]? := fun q => by simp [World.cell?, h2]
  have dd : ∀ q, W.cell? ⟨N3, q, none⟩ = #[f0, f1][q]? := fun q => by simp [World.cell?, h3]
  have q0 := cc 0
  have q1 := cc 1
  have q2 := cc 2
  have p0 := dd 0
  have p1 := dd 1
  simp at q0 q1 q2 p0 p1
  simp [results, Tryd.results7, go_sem, e2, e3, q0, q1, q2, p0, p1]
theorem link_start (w : World) : TB w.heap.size (w.heap.size + 1 + 1 + 1) (w.heap.size + 1 + 1) [] (.slice none 0 0) ((((w.alloc (.cells #[.slice none 0 0, .slice none 0 0, .slice none 0 0] 27)).alloc (.cells #[.int .i64 0, .int .i64 0] 30)).alloc (.map #[] 0)).alloc (.cells #[.slice none 0 0, .map (some (w.heap.size + 1 + 1))] 55)) ∧ ((((w.alloc (.cells #[.slice none 0 0, .slice none 0 0, .slice none 0 0] 27)).alloc (.cells #[.int .i64 0, .int .i64 0] 30)).alloc (.map #[] 0)).alloc (.cells #[.slice none 0 0, .map (some (w.heap.size + 1 + 1))] 55)).heap[w.heap.size]? = some (.cells #[.slice none 0 0, .slice none 0 0, .slice none 0 0] 27 (0, 0)) ∧ ((((w.alloc (.cells #[.slice none 0 0, .slice none 0 0, .slice none 0 0] 27)).alloc (.cells #[.int .i64 0, .int .i64 0] 30)).alloc (.map #[] 0)).alloc (.cells #[.slice none 0 0, .map (some (w.heap.size + 1 + 1))] 55)).heap[w.heap.size + 1]? = some (.cells #[.int .i64 0, .int .i64 0] 30 (0, 0)) ∧ Below w.heap.size w ((((w.alloc (.cells #[.slice none 0 0, .slice none 0 0, .slice none 0 0] 27)).alloc (.cells #[.int .i64 0, .int .i64 0] 30)).alloc (.map #[] 0)).alloc (.cells #[.slice none 0 0, .map (some (w.heap.size + 1 + 1))] 55)) := by
  have h1 := World.alloc_heap_new w (.cells #[.slice none 0 0, .slice none 0 0, .slice none 0 0] 27)
  have h2 := World.alloc_heap_new (w.alloc (.cells #[.slice none 0 0, .slice none 0 0, .slice none 0 0] 27)) (.cells #[.int .i64 0, .int .i64 0] 30)
  have h3 := MapG.made ((w.alloc (.cells #[.slice none 0 0, .slice none 0 0, .slice none 0 0] 27)).alloc (.cells #[.int .i64 0, .int .i64 0] 30))
  have h4 := World.alloc_heap_new (((w.alloc (.cells #[.slice none 0 0, .slice none 0 0, .slice none 0 0] 27)).alloc (.cells #[.int .i64 0, .int .i64 0] 30)).alloc (.map #[] 0)) (.cells #[.slice none 0 0, .map (some (w.heap.size + 1 + 1))] 55)
  have s2 : ((w.alloc (.cells #[.slice none 0 0, .slice none 0 0, .slice none 0 0] 27)).alloc (.cells #[.int .i64 0, .int .i64 0] 30)).heap.size = w.heap.size + 1 + 1 := by simp
  rw [s2] at h3
  refine ⟨⟨by simpa using h4, ?_, World.ownsRow_nil _ _ _ _, by omega, by omega, by simp⟩, ?_, ?_, (((((Below.refl _ _).alloc (Nat.le_refl _) _).alloc (by simp) _).alloc (by first | (simp; done) | (simp; omega)) _).alloc (by first | (simp; done) | (simp; omega)) _)⟩
  · have h5 : MapG (w.heap.size + 1 + 1) 0 (fun _ => none) ((((w.alloc (.cells #[.slice none 0 0, .slice none 0 0, .slice none 0 0] 27)).alloc (.cells #[.int .i64 0, .int .i64 0] 30)).alloc (.map #[] 0)).alloc (.cells #[.slice none 0 0, .map (some (w.heap.size + 1 + 1))] 55)) := h3.kept (Below.heap_alloc _ _ _ (by simp))
    exact h5.congr (fun s => rfl)
  · rw [Below.heap_alloc _ _ _ (by first | (simp; done) | (simp; omega)), Below.heap_alloc _ _ _ (by first | (simp; done) | (simp; omega)), Below.heap_alloc _ _ _ (by simp)]
    exact h1
  · rw [Below.heap_alloc _ _ _ (by first | (simp; done) | (simp; omega)), Below.heap_alloc _ _ _ (by simp)]
    simpa using h2
theorem own_base {w : World} {B B' size n : Nat} {e : TypeId} {v : Value} {xs : List Value} (h : w.ownsRow B e size v n xs) (hb : B' ≤ B) : w.ownsRow B' e size v n xs := by
  refine ⟨h.1, ?_⟩
  rcases h.2 with h | ⟨g, cap, cur, rfl, hbg, rest⟩
  · exact Or.inl h
  · exact Or.inr ⟨g, cap, cur, rfl, Nat.le_trans hb hbg, rest⟩
theorem own_ne {w : World} {B size n : Nat} {e : TypeId} {v : Value} {xs : List Value} (h : w.ownsRow B e size v n xs) {g N : Nat} (hg : v.ownBlock = some g) {cs : Array Value} {t : TypeId} (hN : w.heap[N]? = some (.cells cs t (0, 0))) (ht : t ≠ e) : g ≠ N := fun eq => by
  rcases h.2 with ⟨rfl, _⟩ | ⟨g', cap, cur, rfl, _, hg', _⟩
  · simp [Value.ownBlock] at hg
  · simp [Value.ownBlock] at hg
    subst hg
    rw [eq, hN] at hg'
    simp at hg'
    exact ht hg'.2
/-- An image that is told, in memory. -/
def LinkOk (us : List Un) (bv pv sv : Value) (w w' : World) : Prop :=
  ∃ ps ss, w'.ownsRow w.heap.size 40 3 bv (defAll us us.length).length ((defAll us us.length).flatMap bcells) ∧ w'.ownsRow w.heap.size 46 2 pv ps.length (flatP ps) ∧ w'.ownsRow w.heap.size 3 1 sv ss.length (ints ss) ∧ (ps.map PE.pro, ss) = imgS (defAll us us.length) us ∧ ∀ p ∈ ps, p.Ok (fun b => w.heap.size ≤ b ∧ b < w'.heap.size) w'
/-- What is told of a link. -/
def ToldL (us : List Un) (w : World) (e : Ending) (w' : World) : Prop :=
  ∃ bv pv sv, e = .returned (.tuple #[.agg #[bv, pv, sv], fv (linkF us)]) ∧ Below w.heap.size w w' ∧ ((linkF us).1 ≠ 0 → bv = .slice none 0 0 ∧ pv = .slice none 0 0 ∧ sv = .slice none 0 0) ∧
    ((linkF us).1 = 0 → LinkOk us bv pv sv w w')
set_option maxRecDepth 100000 in
set_option maxHeartbeats 6400000 in
theorem Link_any (us : List Un) (a : Option Addr) (cap : Nat) (w : World) (hl : UL w.heap.size w a us) (hc : us.length ≤ cap) (htab : TabS w) (hum : ∀ u ∈ us, u.2.length ≤ 9223372036854775807) (hnm : us.length ≤ 9223372036854775807) :
    Calls Tryd.prog 7 #[.slice a us.length cap] w (ToldL us w) := by
  unfold ToldL
  obtain ⟨r, hr⟩ : ∃ r, r = linkF us := ⟨_, rfl⟩
  rw [← hr]
  unfold linkF at hr
  have HRR := hidd hr
  have LS := hidd (link_start w)
  have HL := hidd hl
  have HTAB := hidd htab
  have HUM := hidd hum
  obtain ⟨n, hn⟩ : ∃ n, n = us.length := ⟨_, rfl⟩
  have HN := hidd hn
  have HC := hidd hc
  clear hr hl htab hum
  by_cases h40 : 40 < n
  · have hre := HRR.out
    rw [if_pos (by rw [← hn]; exact h40)] at hre
    subst hre
    have h2 := World.alloc_heap_new w (.cells #[.slice none 0 0, .slice none 0 0, .slice none 0 0] 27)
    have h3 := World.alloc_heap_new (w.alloc (.cells #[.slice none 0 0, .slice none 0 0, .slice none 0 0] 27)) (.cells #[.int .i64 0, .int .i64 0] 30)
    have b2 := ((Below.refl w.heap.size w).alloc (Nat.le_refl _) (.cells #[.slice none 0 0, .slice none 0 0, .slice none 0 0] 27)).alloc (by simp) (.cells #[.int .i64 0, .int .i64 0] 30)
    have G2 : ((w.alloc (.cells #[.slice none 0 0, .slice none 0 0, .slice none 0 0] 27)).alloc (.cells #[.int .i64 0, .int .i64 0] 30)).heap[w.heap.size]? = some (.cells #[.slice none 0 0, .slice none 0 0, .slice none 0 0] 27 (0, 0)) := (Below.heap_alloc _ _ _ (by simp)).trans h2
    have G3 : ((w.alloc (.cells #[.slice none 0 0, .slice none 0 0, .slice none 0 0] 27)).alloc (.cells #[.int .i64 0, .int .i64 0] 30)).heap[w.heap.size + 1]? = some (.cells #[.int .i64 0, .int .i64 0] 30 (0, 0)) := by simpa using h3
    rw [← hn]
    clear hc h2 h3 HRR LS hn
    rw [HN.out.symm] at *
    go_enter Tryd.func7, Tryd.ntmps7
    go_upto_region 1 with fail
    obtain ⟨N2, hN2⟩ : ∃ u, u = w.heap.size := ⟨_, rfl⟩
    obtain ⟨N3, hN3⟩ : ∃ u, u = w.heap.size + 1 := ⟨_, rfl⟩
    have hne : N2 ≠ N3 := by omega
    have HB23 : Hid (w.heap.size ≤ N2 ∧ w.heap.size ≤ N3) := ⟨by omega, by omega⟩
    rw [← hN2] at G2
    rw [← hN3] at G3
    have HB2 := hidd b2
    generalize ((w.alloc (.cells #[.slice none 0 0, .slice none 0 0, .slice none 0 0] 27)).alloc (.cells #[.int .i64 0, .int .i64 0] 30)) = V at G2 G3 HB2 ⊢
    rw [← hN3, ← hN2]
    clear hN2 hN3 b2
    have FA := hidd (fin5_at hne G2 G3 (.slice none 0 0) (.slice none 0 0) (.slice none 0 0) (.int .i64 5) (.int .i64 0))
    have FB := hidd (fin5_below HB2.out HB23.out.1 HB23.out.2 (.slice none 0 0) (.slice none 0 0) (.slice none 0 0) (.int .i64 5) (.int .i64 0))
    have k20 : V.cell? ⟨N2, 0, none⟩ = some (.slice none 0 0) := (cellO G2).trans rfl
    have k21 : V.cell? ⟨N2, 1, none⟩ = some (.slice none 0 0) := (cellO G2).trans rfl
    have k22 : V.cell? ⟨N2, 2, none⟩ = some (.slice none 0 0) := (cellO G2).trans rfl
    have k30 : V.cell? ⟨N3, 0, none⟩ = some (.int .i64 0) := (cellO G3).trans rfl
    have k31 : V.cell? ⟨N3, 1, none⟩ = some (.int .i64 0) := (cellO G3).trans rfl
    have kz2 : ∀ q, V.frozen? ⟨N2, q, none⟩ = false := fun q => looseO G2
    have kz3 : ∀ q, V.frozen? ⟨N3, q, none⟩ = false := fun q => looseO G3
    clear G2 G3
    go_wp2_with fail
    exact bodyPost_ret (ret7 FA.out.1 FA.out.2.1 rfl rfl) rfl ⟨_, _, _, rfl, FB.out, by simp, by simp⟩
  · have hn40 : n ≤ 40 := by omega
    have hre := HRR.out
    rw [if_neg (by rw [← hn]; exact h40)] at hre
    have HRE := hidd hre
    clear hc hn HRR h40 hre
    rw [← HN.out]
    have hmm := @run_makeMap Tryd.prog
    go_enter Tryd.func7, Tryd.ntmps7
    go_upto_region 4 with fail
    clear hmm
    obtain ⟨N2, hN2⟩ : ∃ u, u = w.heap.size := ⟨_, rfl⟩
    obtain ⟨N3, hN3⟩ : ∃ u, u = w.heap.size + 1 := ⟨_, rfl⟩
    obtain ⟨mb, hmb⟩ : ∃ u, u = w.heap.size + 1 + 1 := ⟨_, rfl⟩
    obtain ⟨tb, htb⟩ : ∃ u, u = w.heap.size + 1 + 1 + 1 := ⟨_, rfl⟩
    obtain ⟨B, hBB⟩ : ∃ u, u = w.heap.size := ⟨_, rfl⟩
    have HBB := hidd hBB
    have hne : N2 ≠ N3 := by omega
    have HB23 : Hid (B ≤ N2 ∧ B ≤ N3) := ⟨by omega, by omega⟩
    have L0 : Hid (TB B tb mb [] (.slice none 0 0) ((((w.alloc (.cells #[.slice none 0 0, .slice none 0 0, .slice none 0 0] 27)).alloc (.cells #[.int .i64 0, .int .i64 0] 30)).alloc (.map #[] 0)).alloc (.cells #[.slice none 0 0, .map (some (w.heap.size + 1 + 1))] 55)) ∧ ((((w.alloc (.cells #[.slice none 0 0, .slice none 0 0, .slice none 0 0] 27)).alloc (.cells #[.int .i64 0, .int .i64 0] 30)).alloc (.map #[] 0)).alloc (.cells #[.slice none 0 0, .map (some (w.heap.size + 1 + 1))] 55)).heap[N2]? = some (.cells #[.slice none 0 0, .slice none 0 0, .slice none 0 0] 27 (0, 0)) ∧ ((((w.alloc (.cells #[.slice none 0 0, .slice none 0 0, .slice none 0 0] 27)).alloc (.cells #[.int .i64 0, .int .i64 0] 30)).alloc (.map #[] 0)).alloc (.cells #[.slice none 0 0, .map (some (w.heap.size + 1 + 1))] 55)).heap[N3]? = some (.cells #[.int .i64 0, .int .i64 0] 30 (0, 0)) ∧ Below B w ((((w.alloc (.cells #[.slice none 0 0, .slice none 0 0, .slice none 0 0] 27)).alloc (.cells #[.int .i64 0, .int .i64 0] 30)).alloc (.map #[] 0)).alloc (.cells #[.slice none 0 0, .map (some (w.heap.size + 1 + 1))] 55))) := by
      rw [hBB, hN2, hN3, htb, hmb]; exact LS
    clear LS
    generalize ((((w.alloc (.cells #[.slice none 0 0, .slice none 0 0, .slice none 0 0] 27)).alloc (.cells #[.int .i64 0, .int .i64 0] 30)).alloc (.map #[] 0)).alloc (.cells #[.slice none 0 0, .map (some (w.heap.size + 1 + 1))] 55)) = V at L0 ⊢
    rw [← htb, ← hN3, ← hN2]
    clear hN2 hN3 hmb htb hBB
    have DEF := define_any B tb mb (.slice none 0 0) us a cap w V HBB.out L0.out.2.2.2 L0.out.1 (by rw [HBB.out]; exact HL.out) (by rw [← HN.out]; exact hn40) HC.out HTAB.out HUM.out
    obtain ⟨d, hd⟩ : ∃ d, d = fstF (unitE us) 0 us.length := ⟨_, rfl⟩
    obtain ⟨gs, hgs⟩ : ∃ g, g = defAll us us.length := ⟨_, rfl⟩
    rw [← hd, ← hgs] at HRE DEF
    have HDD := hidd hd
    have HGS := hidd hgs
    unfold fv at DEF
    rw [← HN.out] at DEF
    have DEF := hidd DEF
    clear hd hgs
    go_wp2_with fail
    refine DEF.out.mono ?_
    rintro e W1 ⟨rfl, ty1, bl1, h1⟩
    have hBW1 : B ≤ W1.heap.size := by have := bl1.size; rw [← HBB.out] at this; exact this
    have hba := (Below.refl W1.heap.size W1).alloc (Nat.le_refl _) (.cells #[.int .i64 d.1, .int .i64 d.2] 30)
    have FX := hidd (World.alloc_heap_new W1 (.cells #[.int .i64 d.1, .int .i64 d.2] 30))
    have L1 : Hid ((W1.alloc (.cells #[.int .i64 d.1, .int .i64 d.2] 30)).heap[N2]? = some (.cells #[.slice none 0 0, .slice none 0 0, .slice none 0 0] 27 (0, 0)) ∧ (W1.alloc (.cells #[.int .i64 d.1, .int .i64 d.2] 30)).heap[N3]? = some (.cells #[.int .i64 0, .int .i64 0] 30 (0, 0)) ∧ Below B w (W1.alloc (.cells #[.int .i64 d.1, .int .i64 d.2] 30)) ∧ (d.1 = 0 → (∃ bv', TB B tb mb gs bv' (W1.alloc (.cells #[.int .i64 d.1, .int .i64 d.2] 30))) ∧ gs.length ≤ n * 3000000)) := by
      have g2 := ty1 N2 _ 27 L0.out.2.1 (by decide) (by decide)
      have g3 := ty1 N3 _ 30 L0.out.2.2.1 (by decide) (by decide)
      refine ⟨(hba.block _ (Array.getElem?_eq_some_iff.1 g2).1).trans g2, (hba.block _ (Array.getElem?_eq_some_iff.1 g3).1).trans g3, bl1.trans (hba.mono hBW1), fun h => ?_⟩
      obtain ⟨⟨bv', hb⟩, hlen⟩ := h1 h
      exact ⟨⟨bv', hb.below hba⟩, hlen⟩
    have hf23 : N2 < W1.heap.size ∧ N3 < W1.heap.size := ⟨(Array.getElem?_eq_some_iff.1 (ty1 N2 _ 27 L0.out.2.1 (by decide) (by decide))).1, (Array.getElem?_eq_some_iff.1 (ty1 N3 _ 30 L0.out.2.2.1 (by decide) (by decide))).1⟩
    clear ty1 bl1 h1 hba DEF L0
    go_upto_region 5 with fail
    generalize W1.alloc (.cells #[.int .i64 d.1, .int .i64 d.2] 30) = V1 at FX L1 ⊢
    generalize W1.heap.size = fb at FX hBW1 hf23 ⊢
    have hf2 : fb ≠ N2 := by omega
    have hf3 : fb ≠ N3 := by omega
    have hf2' : N2 ≠ fb := by omega
    have hf3' : N3 ≠ fb := by omega
    have f0 : V1.cell? ⟨fb, 0, none⟩ = some (.int .i64 d.1) := (cellO FX.out).trans rfl
    have f1 : V1.cell? ⟨fb, 1, none⟩ = some (.int .i64 d.2) := (cellO FX.out).trans rfl
    by_cases d0 : d.1 = 0
    · have hre := HRE.out
      rw [if_pos d0] at hre
      have HRE := hidd hre
      obtain ⟨⟨bv, hTB⟩, hlen⟩ := L1.out.2.2.2 d0
      obtain ⟨ba, bc, hbv, hbc⟩ := hTB.slice
      subst hbv
      have HTB := hidd hTB
      obtain ⟨gn, hgn⟩ : ∃ n, n = gs.length := ⟨_, rfl⟩
      have HGN := hidd hgn
      have t0 : V1.cell? ⟨tb, 0, none⟩ = some (.slice ba gn bc) := by rw [hgn]; exact (cellO hTB.tb).trans rfl
      have d0' : (d.1 != 0) = false := by rw [d0]; rfl
      have ALR := hidd (all_right (us := us) (by rw [← HDD.out]; exact d0))
      rw [← hgn] at hbc hlen
      clear hTB hre hgn
      by_cases h5 : 500 < gn
      · have hre := HRE.out
        rw [if_pos (by rw [← HGN.out]; exact h5)] at hre
        subst hre
        have FA := hidd (fin5_at hne L1.out.1 L1.out.2.1 (.slice none 0 0) (.slice none 0 0) (.slice none 0 0) (.int .i64 4) (.int .i64 0))
        have FB := hidd (fin5_below L1.out.2.2.1 HB23.out.1 HB23.out.2 (.slice none 0 0) (.slice none 0 0) (.slice none 0 0) (.int .i64 4) (.int .i64 0))
        have k20 : V1.cell? ⟨N2, 0, none⟩ = some (.slice none 0 0) := (cellO L1.out.1).trans rfl
        have k21 : V1.cell? ⟨N2, 1, none⟩ = some (.slice none 0 0) := (cellO L1.out.1).trans rfl
        have k22 : V1.cell? ⟨N2, 2, none⟩ = some (.slice none 0 0) := (cellO L1.out.1).trans rfl
        have k30 : V1.cell? ⟨N3, 0, none⟩ = some (.int .i64 0) := (cellO L1.out.2.1).trans rfl
        have k31 : V1.cell? ⟨N3, 1, none⟩ = some (.int .i64 0) := (cellO L1.out.2.1).trans rfl
        have kz2 : ∀ q, V1.frozen? ⟨N2, q, none⟩ = false := fun q => looseO L1.out.1
        have kz3 : ∀ q, V1.frozen? ⟨N3, q, none⟩ = false := fun q => looseO L1.out.2.1
        go_wp2_with fail
        exact bodyPost_ret (ret7 FA.out.1 FA.out.2.1 rfl rfl) rfl ⟨_, _, _, rfl, by rw [← HBB.out]; exact FB.out, by simp, by simp⟩
      · have hre := HRE.out
        rw [if_neg (by rw [← HGN.out]; exact h5)] at hre
        have HRE := hidd hre
        have WU := wrongUses_any B tb mb gs (.slice ba gs.length bc) us a cap w V1 L1.out.2.2.1 HTB.out (by rw [HBB.out]; exact HL.out) (by rw [← HN.out]; exact hn40) HC.out ALR.out
        obtain ⟨g, hg⟩ : ∃ g, g = fstF (unitU gs us) 0 us.length := ⟨_, rfl⟩
        rw [← hg] at HRE WU
        unfold fv at WU
        rw [← HN.out] at WU
        have WU := hidd WU
        clear hre hg
        go_wp2_with fail
        refine WU.out.mono ?_
        rintro e W2 ⟨rfl, ty2, bl2, h2⟩
        have hBW2 : B ≤ W2.heap.size := by have := bl2.size; rw [← HBB.out] at this; exact this
        have hba := (Below.refl W2.heap.size W2).alloc (Nat.le_refl _) (.cells #[.int .i64 g.1, .int .i64 g.2] 30)
        have FY := hidd (World.alloc_heap_new W2 (.cells #[.int .i64 g.1, .int .i64 g.2] 30))
        have g2 := ty2 N2 _ 27 L1.out.1 (by decide) (by decide)
        have g3 := ty2 N3 _ 30 L1.out.2.1 (by decide) (by decide)
        have L2 : Hid ((W2.alloc (.cells #[.int .i64 g.1, .int .i64 g.2] 30)).heap[N2]? = some (.cells #[.slice none 0 0, .slice none 0 0, .slice none 0 0] 27 (0, 0)) ∧ (W2.alloc (.cells #[.int .i64 g.1, .int .i64 g.2] 30)).heap[N3]? = some (.cells #[.int .i64 0, .int .i64 0] 30 (0, 0)) ∧ Below B w (W2.alloc (.cells #[.int .i64 g.1, .int .i64 g.2] 30)) ∧ (g.1 = 0 → TB B tb mb gs (.slice ba gs.length bc) (W2.alloc (.cells #[.int .i64 g.1, .int .i64 g.2] 30)))) :=
          ⟨(hba.block _ (Array.getElem?_eq_some_iff.1 g2).1).trans g2, (hba.block _ (Array.getElem?_eq_some_iff.1 g3).1).trans g3, bl2.trans (hba.mono hBW2), fun h => (h2 h).below hba⟩
        have hg23 : N2 < W2.heap.size ∧ N3 < W2.heap.size := ⟨(Array.getElem?_eq_some_iff.1 g2).1, (Array.getElem?_eq_some_iff.1 g3).1⟩
        clear ty2 bl2 h2 hba WU L1 g2 g3 f0 f1 t0 FX HTB
        go_upto_region 10 with fail
        generalize W2.alloc (.cells #[.int .i64 g.1, .int .i64 g.2] 30) = V2 at FY L2 ⊢
        generalize W2.heap.size = fc at FY hBW2 hg23 ⊢
        have hc2 : fc ≠ N2 := by omega
        have hc3 : fc ≠ N3 := by omega
        have hc2' : N2 ≠ fc := by omega
        have hc3' : N3 ≠ fc := by omega
        have f0 : V2.cell? ⟨fc, 0, none⟩ = some (.int .i64 g.1) := (cellO FY.out).trans rfl
        have f1 : V2.cell? ⟨fc, 1, none⟩ = some (.int .i64 g.2) := (cellO FY.out).trans rfl
        by_cases e0 : g.1 = 0
        · have hre := HRE.out
          rw [if_pos e0] at hre
          subst hre
          have e0' : (g.1 != 0) = false := by rw [e0]; rfl
          have HTB2 := hidd (L2.out.2.2.2 e0)
          have IMG := image_any B tb mb gs (.slice ba gs.length bc) us a cap V2 HTB2.out ((show UL B w a us by rw [HBB.out]; exact HL.out).below L2.out.2.2.1) (by rw [← HN.out]; exact hn40) HC.out ALR.out
          rw [← HN.out] at IMG
          have IMG := hidd IMG
          go_wp2_with fail
          refine IMG.out.mono ?_
          rintro e W3 ⟨pv, sv, ps, ss, rfl, bl3, hpr, hsr, hps, hok⟩
          have hB3 : B ≤ V2.heap.size := Nat.le_of_lt (Nat.lt_of_le_of_lt HTB2.out.bt (Array.getElem?_eq_some_iff.1 HTB2.out.tb).1)
          have m2 := (bl3.block _ (Array.getElem?_eq_some_iff.1 L2.out.1).1).trans L2.out.1
          have m3 := (bl3.block _ (Array.getElem?_eq_some_iff.1 L2.out.2.1).1).trans L2.out.2.1
          have HM23 : Hid (N2 < V2.heap.size ∧ N3 < V2.heap.size) := ⟨(Array.getElem?_eq_some_iff.1 L2.out.1).1, (Array.getElem?_eq_some_iff.1 L2.out.2.1).1⟩
          have HTB3 := hidd (HTB2.out.below bl3)
          obtain ⟨va, vc, hpv, _⟩ := own_slice hpr
          obtain ⟨sa, sc, hsv, _⟩ := own_slice hsr
          subst hpv hsv
          have HPR := hidd hpr
          have HSR := hidd hsr
          have HIM := hidd (And.intro hps hok)
          have HBL3 := hidd (L2.out.2.2.1.trans (bl3.mono hB3))
          obtain ⟨pl, hpl⟩ : ∃ n, n = ps.length := ⟨_, rfl⟩
          obtain ⟨sl, hsl⟩ : ∃ n, n = ss.length := ⟨_, rfl⟩
          have HPLS := hidd (And.intro hpl hsl)
          rw [← hpl] at HPR
          rw [← hsl] at HSR
          rw [← hpl, ← hsl]
          have FA := hidd (fin5_at hne m2 m3 (.slice ba gs.length bc) (.slice va pl vc) (.slice sa sl sc) (.int .i64 0) (.int .i64 0))
          have FB := hidd (fin5_below HBL3.out HB23.out.1 HB23.out.2 (.slice ba gs.length bc) (.slice va pl vc) (.slice sa sl sc) (.int .i64 0) (.int .i64 0))
          have k20 : W3.cell? ⟨N2, 0, none⟩ = some (.slice none 0 0) := (cellO m2).trans rfl
          have k21 : W3.cell? ⟨N2, 1, none⟩ = some (.slice none 0 0) := (cellO m2).trans rfl
          have k22 : W3.cell? ⟨N2, 2, none⟩ = some (.slice none 0 0) := (cellO m2).trans rfl
          have k30 : W3.cell? ⟨N3, 0, none⟩ = some (.int .i64 0) := (cellO m3).trans rfl
          have k31 : W3.cell? ⟨N3, 1, none⟩ = some (.int .i64 0) := (cellO m3).trans rfl
          have kz2 : ∀ q, W3.frozen? ⟨N2, q, none⟩ = false := fun q => looseO m2
          have kz3 : ∀ q, W3.frozen? ⟨N3, q, none⟩ = false := fun q => looseO m3
          have HFIN : Hid (LinkOk us (.slice ba gs.length bc) (.slice va pl vc) (.slice sa sl sc) w (fin5 W3 N2 N3 (.slice ba gs.length bc) (.slice va pl vc) (.slice sa sl sc) (.int .i64 0) (.int .i64 0))) := by
            have hgs2 : gs = defAll us us.length := HGS.out
            have kp : ∀ b, b ≠ N2 → b ≠ N3 → (fin5 W3 N2 N3 (.slice ba gs.length bc) (.slice va pl vc) (.slice sa sl sc) (.int .i64 0) (.int .i64 0)).heap[b]? = W3.heap[b]? := FA.out.2.2.1
            have ks : (fin5 W3 N2 N3 (.slice ba gs.length bc) (.slice va pl vc) (.slice sa sl sc) (.int .i64 0) (.int .i64 0)).heap.size = W3.heap.size := FA.out.2.2.2
            refine ⟨ps, ss, ?_, ?_, ?_, by rw [← hgs2]; exact HIM.out.1, fun p hp => ?_⟩
            · rw [← hgs2, ← HBB.out]
              exact own_stay HTB3.out.row (fun g hg => kp g (own_ne HTB3.out.row hg m2 (by decide)) (own_ne HTB3.out.row hg m3 (by decide)))
            · rw [← HBB.out, ← hpl]
              exact own_base (own_stay HPR.out (fun g hg => kp g (own_ne HPR.out hg m2 (by decide)) (own_ne HPR.out hg m3 (by decide)))) hB3
            · rw [← HBB.out, ← hsl]
              exact own_base (own_stay HSR.out (fun g hg => kp g (own_ne HSR.out hg m2 (by decide)) (own_ne HSR.out hg m3 (by decide)))) hB3
            · have hm := HM23.out
              have h3 := HBB.out
              exact (HIM.out.2 p hp).stay (fun b hb => kp b (by have := hb.1; omega) (by have := hb.1; omega)) (fun b hb => ⟨by have := hb.1; omega, by rw [ks]; exact hb.2⟩)
          clear hpr hsr hps hok m2 m3 bl3 hpl hsl IMG f0 f1
          go_wp2_with fail
          refine bodyPost_ret (ret7 FA.out.1 FA.out.2.1 rfl rfl) rfl ⟨_, _, _, rfl, by rw [← HBB.out]; exact FB.out, ?_⟩
          first
            | exact ⟨fun h => absurd rfl h, fun _ => HFIN.out⟩
            | exact HFIN.out
            | exact ⟨fun h => absurd rfl h, HFIN.out⟩
            | exact ⟨trivial, HFIN.out⟩
        · have hre := HRE.out
          rw [if_neg e0] at hre
          subst hre
          have HE0 := hidd e0
          have e0' : (r.1 != 0) = true := by simpa using e0
          have FA := hidd (fin5_at (W := V2.drew) hne L2.out.1 L2.out.2.1 (.slice none 0 0) (.slice none 0 0) (.slice none 0 0) (.int .i64 r.1) (.int .i64 r.2))
          have FB := hidd (fin5_below L2.out.2.2.1.drew HB23.out.1 HB23.out.2 (.slice none 0 0) (.slice none 0 0) (.slice none 0 0) (.int .i64 r.1) (.int .i64 r.2))
          have k20 : V2.cell? ⟨N2, 0, none⟩ = some (.slice none 0 0) := (cellO L2.out.1).trans rfl
          have k21 : V2.cell? ⟨N2, 1, none⟩ = some (.slice none 0 0) := (cellO L2.out.1).trans rfl
          have k22 : V2.cell? ⟨N2, 2, none⟩ = some (.slice none 0 0) := (cellO L2.out.1).trans rfl
          have k30 : V2.cell? ⟨N3, 0, none⟩ = some (.int .i64 0) := (cellO L2.out.2.1).trans rfl
          have k31 : V2.cell? ⟨N3, 1, none⟩ = some (.int .i64 0) := (cellO L2.out.2.1).trans rfl
          have kz2 : ∀ q, V2.frozen? ⟨N2, q, none⟩ = false := fun q => looseO L2.out.1
          have kz3 : ∀ q, V2.frozen? ⟨N3, q, none⟩ = false := fun q => looseO L2.out.2.1
          clear e0 HRE
          go_upto_region 11 with fail
          go_region
          all_goals
            go_wp2_with fail
            exact bodyPost_ret (ret7 FA.out.1 FA.out.2.1 rfl rfl) rfl ⟨_, _, _, rfl, by rw [← HBB.out]; exact FB.out, by simp, fun h => absurd h HE0.out⟩
    · have hre := HRE.out
      rw [if_neg d0] at hre
      subst hre
      have HD0 := hidd d0
      have d0' : (r.1 != 0) = true := by simpa using d0
      have FA := hidd (fin5_at (W := V1.drew) hne L1.out.1 L1.out.2.1 (.slice none 0 0) (.slice none 0 0) (.slice none 0 0) (.int .i64 r.1) (.int .i64 r.2))
      have FB := hidd (fin5_below L1.out.2.2.1.drew HB23.out.1 HB23.out.2 (.slice none 0 0) (.slice none 0 0) (.slice none 0 0) (.int .i64 r.1) (.int .i64 r.2))
      have k20 : V1.cell? ⟨N2, 0, none⟩ = some (.slice none 0 0) := (cellO L1.out.1).trans rfl
      have k21 : V1.cell? ⟨N2, 1, none⟩ = some (.slice none 0 0) := (cellO L1.out.1).trans rfl
      have k22 : V1.cell? ⟨N2, 2, none⟩ = some (.slice none 0 0) := (cellO L1.out.1).trans rfl
      have k30 : V1.cell? ⟨N3, 0, none⟩ = some (.int .i64 0) := (cellO L1.out.2.1).trans rfl
      have k31 : V1.cell? ⟨N3, 1, none⟩ = some (.int .i64 0) := (cellO L1.out.2.1).trans rfl
      have kz2 : ∀ q, V1.frozen? ⟨N2, q, none⟩ = false := fun q => looseO L1.out.1
      have kz3 : ∀ q, V1.frozen? ⟨N3, q, none⟩ = false := fun q => looseO L1.out.2.1
      clear d0 HRE
      go_upto_region 6 with fail
      go_region
      all_goals
        go_wp2_with fail
        exact bodyPost_ret (ret7 FA.out.1 FA.out.2.1 rfl rfl) rfl ⟨_, _, _, rfl, by rw [← HBB.out]; exact FB.out, by simp, fun h => absurd h HD0.out⟩
end Go.Proofs.YtdnbingddbakaaaDoor
