/- Chapter 10, plainly: globals have the numbers in whose order they are defined. Chapter 10's laws: their closed fact, what it is made of. Chapter 10's laws: their closed fact. -/
import Derived.Test.YtdnbingddbakaaaDoorK36
namespace Go.Proofs.YtdnbingddbakaaaDoor
section
set_option linter.unusedVariables false
set_option linter.unusedSimpArgs false
open Go.RowKit

theorem idxG_at : ∀ (gs : List Gl) (s : Gl) (i : Nat), idxG gs s = some i → gs[i]? = some s
  | [], s, i, h => by simp [idxG] at h
  | x :: r, s, i, h => by
    rw [idxG] at h
    by_cases e : x = s
    · rw [if_pos e] at h
      simp at h
      subst h
      simp [e]
    · rw [if_neg e] at h
      cases hr : idxG r s with
      | none => rw [hr] at h; simp at h
      | some k =>
        rw [hr] at h
        simp at h
        subst h
        simpa using idxG_at r s k hr
theorem idxG_ltt {gs : List Gl} {s : Gl} {i : Nat} (h : idxG gs s = some i) : i < gs.length := (List.getElem?_eq_some_iff.1 (idxG_at gs s i h)).1
theorem idxG_add {gs : List Gl} {s t : Gl} {i : Nat} (h : idxG gs s = some i) : idxG (addG gs t) s = some i := by
  unfold addG
  split
  · exact h
  · rw [idxG_app, h]
theorem idxG_new (gs : List Gl) (s : Gl) : idxG (addG gs s) s = some ((idxG gs s).getD gs.length) := by
  unfold addG
  cases h : idxG gs s with
  | none => simp [h, idxG_app]
  | some i => simp [h]
theorem idxG_def : ∀ (xs : List In) (gs : List Gl) (s : Gl) (i : Nat), idxG gs s = some i → idxG (defGs gs xs) s = some i
  | [], gs, s, i, h => h
  | x :: r, gs, s, i, h => by
    have e : defGs gs (x :: r) = defGs (defG gs x) r := rfl
    rw [e]
    refine idxG_def r _ s i ?_
    unfold defG
    split
    · exact idxG_add h
    · exact h
theorem defGs_app (gs : List Gl) (a b : List In) : defGs gs (a ++ b) = defGs (defGs gs a) b := by simp [defGs]
/-- What an instruction that defines has in the image, and how many are defined then. -/
theorem def_number {xs : List In} {k : Nat} {x : In} (hx : xs[k]? = some x) (ho : x.op = 13) :
    ∃ i, idxG (defGs [] xs) (x.lib, x.own) = some i ∧ i < (defGs [] xs).length ∧ (defGs [] xs)[i]? = some (x.lib, x.own) ∧ i ≤ (defGs [] (xs.take k)).length ∧
      (defGs [] (xs.take (k + 1))).length = if i = (defGs [] (xs.take k)).length then (defGs [] (xs.take k)).length + 1 else (defGs [] (xs.take k)).length := by
  have h1 : defGs [] (xs.take (k + 1)) = addG (defGs [] (xs.take k)) (x.lib, x.own) := by
    rw [defGs_next hx]
    unfold defG
    rw [if_pos ho]
  have h2 : idxG (defGs [] (xs.take (k + 1))) (x.lib, x.own) = some ((idxG (defGs [] (xs.take k)) (x.lib, x.own)).getD (defGs [] (xs.take k)).length) := by
    rw [h1]; exact idxG_new _ _
  have h3 : defGs [] xs = defGs (defGs [] (xs.take (k + 1))) (xs.drop (k + 1)) := by
    rw [← defGs_app, List.take_append_drop]
  have h4 := idxG_def (xs.drop (k + 1)) _ _ _ h2
  rw [← h3] at h4
  refine ⟨_, h4, idxG_ltt h4, idxG_at _ _ _ h4, ?_, ?_⟩
  · cases h : idxG (defGs [] (xs.take k)) (x.lib, x.own) with
    | none => simp
    | some i => simpa using Nat.le_of_lt (idxG_ltt h)
  · rw [h1]
    unfold addG
    cases h : idxG (defGs [] (xs.take k)) (x.lib, x.own) with
    | none => simp
    | some i =>
      have := idxG_ltt h
      simp
      omega
theorem def_else {xs : List In} {k : Nat} {x : In} (hx : xs[k]? = some x) (ho : x.op ≠ 13) : defGs [] (xs.take (k + 1)) = defGs [] (xs.take k) := by
  rw [defGs_next hx]
  unfold defG
  rw [if_neg ho]
/-- What an instruction placed has, whatever it is. -/
theorem place_op (gs : List Gl) (st : Nat) (x : In) : (placeI gs st x).op = x.op ∧ (placeI gs st x).lib = ⟨#[]⟩ ∧ (x.op ≠ 6 → (placeI gs st x).own = ⟨#[]⟩) := by
  unfold placeI
  (repeat' split) <;> first | exact ⟨rfl, rfl, fun _ => rfl⟩ | exact ⟨rfl, rfl, fun h => absurd (by assumption) h⟩
theorem place_def (gs : List Gl) (st : Nat) {x : In} (ho : x.op = 13) : (placeI gs st x).a = (((idxG gs (x.lib, x.own)).getD 0 : Nat) : Int) := by
  unfold placeI
  rw [if_neg (by omega), if_neg (by omega), if_pos (by omega)]
/-- An instruction that defines, in a right unit whose definitions are right, has the unit's name. -/
theorem fstE_zero {er : Nat → Int} : ∀ (n k : Nat), fstE er k n = 0 → ∀ i, k ≤ i → i < k + n → er i = 0
  | 0, k, _, i, h1, h2 => absurd h1 (by omega)
  | n + 1, k, h, i, h1, h2 => by
    rw [fstE] at h
    by_cases h0 : er k = 0
    · rw [if_pos h0] at h
      by_cases e : i = k
      · rw [e]; exact h0
      · exact fstE_zero n (k + 1) h i (by omega) (by omega)
    · rw [if_neg h0] at h
      exact absurd h h0
theorem def_name {us : List Un} {j : Nat} {u : Un} (h : defU us j u = 0) {k : Nat} {x : In} (hx : (u.2.flatMap Pro.code)[k]? = some x) (ho : x.op = 13) : x.lib = u.1 := by
  have hw := defU_right h
  unfold defU at h
  rw [if_pos hw] at h
  by_cases h7 : ∃ v ∈ us.take j, v.1 = u.1
  · rw [if_pos h7] at h; simp at h
  · rw [if_neg h7] at h
    have h1 := fstE_zero _ 0 h k (Nat.zero_le _) (by have := (List.getElem?_eq_some_iff.1 hx).1; omega)
    rw [insE_at hx] at h1
    unfold defE at h1
    rw [if_pos ho] at h1
    by_cases e : x.lib = u.1
    · exact e
    · rw [if_neg e] at h1; simp at h1
end
section
set_option linter.unusedVariables false
set_option linter.unusedSimpArgs false
open Go.RowKit

def uCode (s : ByteArray) : List In := [insN 1 5, ⟨13, 0, 0, s, ⟨#[120]⟩, emD⟩, insO 14, insO 15]
def uPros (s : ByteArray) : List Pro := [⟨0, uCode s⟩]
def us0 : List Un := [(⟨#[109]⟩, uPros ⟨#[109]⟩), (⟨#[110]⟩, uPros ⟨#[110]⟩)]
theorem us0_link : linkF us0 = (0, 0) := by decide
theorem us0_def : defAll us0 us0.length = [(⟨#[109]⟩, ⟨#[120]⟩), (⟨#[110]⟩, ⟨#[120]⟩)] := by decide
theorem ret20 {ts : Array Value} {W : World} {N : Nat} {x0 x1 : Value} (h : W.heap[N]? = some (.cells #[x0, x1] 37 (0, 0))) (h4 : ts[2]? = some (.pointer (some ⟨N, 0, none⟩))) :
    (results Tryd.f20 ts).run Tryd.prog W = .ok (.agg #[x0, x1]) W := by
  have cc : ∀ q, W.cell? ⟨N, q, none⟩ = #[x0, x1][q]? := fun q => by simp [World.cell?, h]
  have q0 := cc 0
  have q1 := cc 1
  simp at q0 q1
  simp [results, Tryd.results20, go_sem, h4, q0, q1]
def c44 (s : ByteArray) : List Value := (uCode s).flatMap fun x => (ic x (.slice none 0 0)).toList
theorem code_cl {B g : Nat} {w : World} {cs : Array Value} {s : ByteArray} (hs : s.size ≤ maxLen) (hg : g < B) (h : w.heap[g]? = some (.cells cs 51 (0, 0))) (hc : cs.toList = c44 s) : CL B w (some ⟨g, 0, none⟩) (uCode s) := by
  refine Or.inr ⟨g, 0, rfl, hg, fun i x hx => ?_⟩
  have c : ∀ q, w.cell? ⟨g, q, none⟩ = (c44 s)[q]? := fun q => by rw [cellO h, ← hc]; simp
  have nk : ∀ (x : In), x.quote = emD → ∃ f, Dc (fun k => k < B) w f none x.quote.kids := fun x hx => ⟨0, by rw [hx]; exact Dc.nil _ _ _ _⟩
  match i, hx with
  | 0, hx =>
    simp [uCode] at hx
    subst hx
    exact ⟨none, 0, (c _).trans rfl, (c _).trans rfl, (c _).trans rfl, (c _).trans rfl, (c _).trans rfl, (c _).trans rfl, (c _).trans rfl, (c _).trans rfl, (c _).trans rfl, (c _).trans rfl, (c _).trans rfl, Nat.zero_le _, Nat.zero_le _, Nat.zero_le _, Nat.le_refl _, nk _ rfl⟩
  | 1, hx =>
    simp [uCode] at hx
    subst hx
    exact ⟨none, 0, (c _).trans rfl, (c _).trans rfl, (c _).trans rfl, (c _).trans rfl, (c _).trans rfl, (c _).trans rfl, (c _).trans rfl, (c _).trans rfl, (c _).trans rfl, (c _).trans rfl, (c _).trans rfl, hs, (show (⟨#[120]⟩ : ByteArray).size ≤ maxLen by decide), Nat.zero_le _, Nat.le_refl _, nk _ rfl⟩
  | 2, hx =>
    simp [uCode] at hx
    subst hx
    exact ⟨none, 0, (c _).trans rfl, (c _).trans rfl, (c _).trans rfl, (c _).trans rfl, (c _).trans rfl, (c _).trans rfl, (c _).trans rfl, (c _).trans rfl, (c _).trans rfl, (c _).trans rfl, (c _).trans rfl, Nat.zero_le _, Nat.zero_le _, Nat.zero_le _, Nat.le_refl _, nk _ rfl⟩
  | 3, hx =>
    simp [uCode] at hx
    subst hx
    exact ⟨none, 0, (c _).trans rfl, (c _).trans rfl, (c _).trans rfl, (c _).trans rfl, (c _).trans rfl, (c _).trans rfl, (c _).trans rfl, (c _).trans rfl, (c _).trans rfl, (c _).trans rfl, (c _).trans rfl, Nat.zero_le _, Nat.zero_le _, Nat.zero_le _, Nat.le_refl _, nk _ rfl⟩
  | i + 4, hx => simp [uCode] at hx
theorem unit_pl {B g p : Nat} {w : World} {cs : Array Value} {s : ByteArray} (hs : s.size ≤ maxLen) (hg : g < B) (hp : p < B) (h : w.heap[g]? = some (.cells cs 51 (0, 0))) (hc : cs.toList = c44 s) (h2 : w.heap[p]? = some (.cells #[.int .i64 0, .slice (some ⟨g, 0, none⟩) 4 4] 46 (0, 0))) : PL B w (some ⟨p, 0, none⟩) (uPros s) := by
  refine Or.inr ⟨p, 0, rfl, hp, fun i P hP => ?_⟩
  match i, hP with
  | 0, hP =>
    simp [uPros] at hP
    subst hP
    exact ⟨some ⟨g, 0, none⟩, 4, (cellO h2).trans rfl, (cellO h2).trans rfl, Nat.le_refl _, code_cl hs hg h hc⟩
  | i + 1, hP => simp [uPros] at hP
theorem unit_end (w : World) (s : ByteArray) (hs : s.size ≤ maxLen) (cs : Array Value) (hc : cs.toList = c44 s) : (((w.alloc (.cells #[.string s, .slice (some ⟨w.heap.size + 1 + 1, 0, none⟩) 1 1] 37)).alloc (.cells cs 51)).alloc (.cells #[.int .i64 0, .slice (some ⟨w.heap.size + 1, 0, none⟩) 4 4] 46)).heap[w.heap.size]? = some (.cells #[.string s, .slice (some ⟨w.heap.size + 1 + 1, 0, none⟩) 1 1] 37 (0, 0)) ∧
    PL (((w.alloc (.cells #[.string s, .slice (some ⟨w.heap.size + 1 + 1, 0, none⟩) 1 1] 37)).alloc (.cells cs 51)).alloc (.cells #[.int .i64 0, .slice (some ⟨w.heap.size + 1, 0, none⟩) 4 4] 46)).heap.size (((w.alloc (.cells #[.string s, .slice (some ⟨w.heap.size + 1 + 1, 0, none⟩) 1 1] 37)).alloc (.cells cs 51)).alloc (.cells #[.int .i64 0, .slice (some ⟨w.heap.size + 1, 0, none⟩) 4 4] 46)) (some ⟨w.heap.size + 1 + 1, 0, none⟩) (uPros s) ∧ Below w.heap.size w (((w.alloc (.cells #[.string s, .slice (some ⟨w.heap.size + 1 + 1, 0, none⟩) 1 1] 37)).alloc (.cells cs 51)).alloc (.cells #[.int .i64 0, .slice (some ⟨w.heap.size + 1, 0, none⟩) 4 4] 46)) := by
  generalize hA : (Obj.cells #[Value.string s, .slice (some ⟨w.heap.size + 1 + 1, 0, none⟩) 1 1] 37) = A
  have h1 := World.alloc_heap_new w A
  have h2 := World.alloc_heap_new (w.alloc A) (.cells cs 51)
  have h3 := World.alloc_heap_new ((w.alloc A).alloc (.cells cs 51)) (.cells #[.int .i64 0, .slice (some ⟨w.heap.size + 1, 0, none⟩) 4 4] 46)
  refine ⟨?_, ?_, (((Below.refl _ _).alloc (Nat.le_refl _) _).alloc (by simp) _).alloc (by simp; omega) _⟩
  · rw [Below.heap_alloc _ _ _ (by simp; omega), Below.heap_alloc _ _ _ (by simp), h1, ← hA]
  · refine unit_pl (g := w.heap.size + 1) (cs := cs) hs (by simp) (by simp) ?_ hc ?_
    · rw [Below.heap_alloc _ _ _ (by simp)]
      simpa using h2
    · simpa using h3
set_option maxRecDepth 100000 in
set_option maxHeartbeats 3200000 in
theorem unit20_any (s : ByteArray) (hs : s.size ≤ maxLen) (w : World) : Calls Tryd.prog 20 #[.string s] w fun e w' => (∃ a, e = .returned (.agg #[.string s, .slice a 1 1]) ∧ PL w'.heap.size w' a (uPros s)) ∧ Below w.heap.size w w' := by
  have HS := hidd hs
  clear hs
  go_enter Tryd.func20, Tryd.ntmps20
  go_wp2_with fail
  exact bodyPost_ret (ret20 (unit_end w s HS.out _ rfl).1 rfl) rfl ⟨⟨_, rfl, (unit_end w s HS.out _ rfl).2.1⟩, (unit_end w s HS.out _ rfl).2.2⟩
end
section
set_option linter.unusedVariables false
set_option linter.unusedSimpArgs false
open Go.RowKit

theorem own_at {w : World} {base size n : Nat} {e : TypeId} {v : Value} {xs : List Value} (h : w.ownsRow base e size v n xs) (hn : 0 < n) : ∃ g vc, v = .slice (some ⟨g, 0, none⟩) n vc ∧ n ≤ vc ∧ base ≤ g ∧ g < w.heap.size ∧ v.ownBlock = some g ∧ ∀ j u, xs[j]? = some u → w.cell? ⟨g, j, none⟩ = some u := by
  rcases h.2 with ⟨rfl, rfl⟩ | ⟨g, cap, cur, rfl, hbg, hg, hnc, hcm, hcs, htake⟩
  · omega
  · refine ⟨g, cap, rfl, hnc, hbg, (Array.getElem?_eq_some_iff.1 hg).1, rfl, fun j u hu => ?_⟩
    rw [cellO hg]
    rw [← htake] at hu
    rw [List.getElem?_take] at hu
    split at hu
    · simpa using hu
    · simp at hu
/-- What of the closed fact's image is looked at. -/
theorem alive_at {bv pv sv : Value} {w w' : World} (h : LinkOk us0 bv pv sv w w') : ∃ ba bc pg pc sg sc cb cc, bv = .slice ba 2 bc ∧ pv = .slice (some ⟨pg, 0, none⟩) 2 pc ∧ sv = .slice (some ⟨sg, 0, none⟩) 2 sc ∧ pg < w'.heap.size ∧ sg < w'.heap.size ∧ cb < w'.heap.size ∧ 2 ≤ pc ∧ 2 ≤ sc ∧ 4 ≤ cc ∧
    w'.cell? ⟨sg, 1, none⟩ = some (.int .i64 1) ∧ w'.cell? ⟨pg, 3, none⟩ = some (.slice (some ⟨cb, 0, none⟩) 4 cc) ∧ w'.cell? ⟨cb, 12, none⟩ = some (.int .i64 1) := by
  obtain ⟨ps, ss, h1, h2, h3, h4, h5⟩ := h
  rw [us0_def] at h1 h4
  have e1 : ss = [0, 1] := (congrArg Prod.snd h4).trans (by decide)
  have e2 : ps.map PE.pro = [placeP [(⟨#[109]⟩, ⟨#[120]⟩), (⟨#[110]⟩, ⟨#[120]⟩)] 0 ⟨0, uCode ⟨#[109]⟩⟩, placeP [(⟨#[109]⟩, ⟨#[120]⟩), (⟨#[110]⟩, ⟨#[120]⟩)] 1 ⟨0, uCode ⟨#[110]⟩⟩] := (congrArg Prod.fst h4).trans rfl
  subst e1
  have hl2 : ps.length = 2 := by have := congrArg List.length e2; simpa using this
  obtain ⟨p0, p1, hps⟩ : ∃ p0 p1, ps = [p0, p1] := by
    match ps, hl2 with
    | [p0, p1], _ => exact ⟨p0, p1, rfl⟩
  subst hps
  · simp only [List.map_cons, List.map_nil, List.cons.injEq, and_true] at e2
    have hp1 := e2.2
    have hes : p1.es.map IE.i = (uCode ⟨#[110]⟩).map (placeI [(⟨#[109]⟩, ⟨#[120]⟩), (⟨#[110]⟩, ⟨#[120]⟩)] 1) := congrArg Pro.code hp1
    have hlen : p1.es.length = 4 := by have := congrArg List.length hes; simpa [uCode] using this
    obtain ⟨ba, bc, hb, _⟩ := own_slice h1
    obtain ⟨pg, pc, hpv, hpc, _, hpg, _, hpcell⟩ := own_at h2 (by simp)
    obtain ⟨sg, sc, hsv, hsc, _, hsg, _, hscell⟩ := own_at h3 (by simp)
    obtain ⟨hl, hcode, _⟩ := h5 p1 (by simp)
    rcases hcode with hn | ⟨cb, ha, hcb, hcc⟩
    · rw [hn] at hlen; simp at hlen
    · refine ⟨ba, bc, pg, pc, sg, sc, cb, p1.c, hb, hpv, hsv, hpg, hsg, hcb.2, hpc, hsc, by rw [← hlen]; exact hl, hscell 1 _ rfl, ?_, ?_⟩
      · rw [← hlen, ← ha]
        exact hpcell 3 _ rfl
      · obtain ⟨e, he⟩ : ∃ e, p1.es[1]? = some e := ⟨_, List.getElem?_eq_getElem (by omega)⟩
        have hi : e.i.a = 1 := by
          have := congrArg (fun l => l[1]?) hes
          simp only [List.getElem?_map, he] at this
          have h9 : e.i = placeI [(⟨#[109]⟩, ⟨#[120]⟩), (⟨#[110]⟩, ⟨#[120]⟩)] 1 ⟨13, 0, 0, ⟨#[110]⟩, ⟨#[120]⟩, emD⟩ := by simpa [uCode] using this
          rw [h9]
          decide
        refine hcc 12 _ ?_
        have := flatI_at p1.es 1 1 e he (by decide)
        rw [show 1 * 11 + 1 = 12 from rfl] at this
        rw [this]
        show some (Value.int .i64 e.i.a) = _
        rw [hi]
theorem us0_ul (W2 : World) (a1 a2 : Option Addr) (h1 : PL W2.heap.size W2 a1 (uPros ⟨#[109]⟩)) (h2 : PL W2.heap.size W2 a2 (uPros ⟨#[110]⟩)) : UL (W2.alloc (.cells #[.string ⟨#[109]⟩, .slice a1 1 1, .string ⟨#[110]⟩, .slice a2 1 1] 37)).heap.size (W2.alloc (.cells #[.string ⟨#[109]⟩, .slice a1 1 1, .string ⟨#[110]⟩, .slice a2 1 1] 37)) (some ⟨W2.heap.size, 0, none⟩) us0 := by
  have hn := World.alloc_heap_new W2 (.cells #[.string ⟨#[109]⟩, .slice a1 1 1, .string ⟨#[110]⟩, .slice a2 1 1] 37)
  have hb := (Below.refl W2.heap.size W2).alloc (Nat.le_refl _) (.cells #[.string ⟨#[109]⟩, .slice a1 1 1, .string ⟨#[110]⟩, .slice a2 1 1] 37)
  refine Or.inr ⟨W2.heap.size, 0, rfl, by simp, fun i u hu => ?_⟩
  match i, hu with
  | 0, hu =>
    simp [us0] at hu
    subst hu
    exact ⟨a1, 1, (cellO hn).trans rfl, (cellO hn).trans rfl, Nat.le_refl _, (show (⟨#[109]⟩ : ByteArray).size ≤ maxLen by decide), (h1.below hb).mono hb.size⟩
  | 1, hu =>
    simp [us0] at hu
    subst hu
    exact ⟨a2, 1, (cellO hn).trans rfl, (cellO hn).trans rfl, Nat.le_refl _, (show (⟨#[110]⟩ : ByteArray).size ≤ maxLen by decide), (h2.below hb).mono hb.size⟩
  | i + 2, hu => simp [us0] at hu
set_option maxRecDepth 100000 in
set_option maxHeartbeats 3200000 in
theorem alive10_any (w : World) (htab : TabS w) : Calls Tryd.prog 10 #[] w fun e w' => e = .returned (.bool true) ∧ Below w.heap.size w w' := by
  have HTAB := hidd htab
  clear htab
  go_enter Tryd.func10, Tryd.ntmps10
  go_wp2_with fail
  refine (unit20_any ⟨#[109]⟩ (by decide) w).mono ?_
  rintro e W1 ⟨⟨a1, rfl, hp1⟩, s1⟩
  have HP1 := hidd hp1
  have HS1 := hidd s1
  clear hp1 s1
  go_wp2_with fail
  refine (unit20_any ⟨#[110]⟩ (by decide) W1).mono ?_
  rintro e W2 ⟨⟨a2, rfl, hp2⟩, s2⟩
  have hb2 := (Below.refl W2.heap.size W2).alloc (Nat.le_refl _) (.cells #[.string ⟨#[109]⟩, .slice a1 1 1, .string ⟨#[110]⟩, .slice a2 1 1] 37)
  have hb02 := HS1.out.trans (s2.mono HS1.out.size)
  have hb03 := hb02.trans (hb2.mono hb02.size)
  have LK0 := Link_any us0 (some ⟨W2.heap.size, 0, none⟩) 2 (W2.alloc (.cells #[.string ⟨#[109]⟩, .slice a1 1 1, .string ⟨#[110]⟩, .slice a2 1 1] 37)) (us0_ul W2 a1 a2 ((HP1.out.below s2).mono s2.size) hp2) (by decide) (HTAB.out.below hb03) (by decide) (by decide)
  rw [show us0.length = 2 from rfl] at LK0
  have LK := hidd LK0
  have HB3 := hidd hb03
  clear hp2 s2 hb2 hb02 hb03 LK0
  go_wp2_with fail
  refine LK.out.mono ?_
  rintro e W3 ⟨bv, pv, sv, rfl, s3, _, hok⟩
  obtain ⟨ba, bc, pg, pc, sg, sc, cb, cc, rfl, rfl, rfl, hpg, hsg, hcb, hpc, hsc, hcc, k1, k2, k3⟩ := alive_at (hok (by rw [us0_link]))
  rw [us0_link]
  unfold fv
  have ba2 := ((Below.refl W3.heap.size W3).alloc (Nat.le_refl _) (.cells #[.slice ba 2 bc, .slice (some ⟨pg, 0, none⟩) 2 pc, .slice (some ⟨sg, 0, none⟩) 2 sc] 27)).alloc (by simp) (.cells #[.int .i64 0, .int .i64 0] 30)
  have j1 := (ba2.cell (p := ⟨sg, 1, none⟩) hsg).trans k1
  have j2 := (ba2.cell (p := ⟨pg, 3, none⟩) hpg).trans k2
  have j3 := (ba2.cell (p := ⟨cb, 12, none⟩) hcb).trans k3
  have n1 : ((W3.alloc (.cells #[.slice ba 2 bc, .slice (some ⟨pg, 0, none⟩) 2 pc, .slice (some ⟨sg, 0, none⟩) 2 sc] 27)).alloc (.cells #[.int .i64 0, .int .i64 0] 30)).heap[W3.heap.size]? = some (.cells #[.slice ba 2 bc, .slice (some ⟨pg, 0, none⟩) 2 pc, .slice (some ⟨sg, 0, none⟩) 2 sc] 27 (0, 0)) := (Below.heap_alloc _ _ _ (by simp)).trans (World.alloc_heap_new W3 _)
  have n2 : ((W3.alloc (.cells #[.slice ba 2 bc, .slice (some ⟨pg, 0, none⟩) 2 pc, .slice (some ⟨sg, 0, none⟩) 2 sc] 27)).alloc (.cells #[.int .i64 0, .int .i64 0] 30)).heap[W3.heap.size + 1]? = some (.cells #[.int .i64 0, .int .i64 0] 30 (0, 0)) := by
    have := World.alloc_heap_new (W3.alloc (.cells #[.slice ba 2 bc, .slice (some ⟨pg, 0, none⟩) 2 pc, .slice (some ⟨sg, 0, none⟩) 2 sc] 27)) (.cells #[.int .i64 0, .int .i64 0] 30)
    simpa using this
  have HBE := hidd (HB3.out.trans ((s3.trans (ba2.mono s3.size)).mono HB3.out.size))
  clear hok k1 k2 k3 s3 ba2 LK
  go_upto_region 2 with fail
  generalize ((W3.alloc (.cells #[.slice ba 2 bc, .slice (some ⟨pg, 0, none⟩) 2 pc, .slice (some ⟨sg, 0, none⟩) 2 sc] 27)).alloc (.cells #[.int .i64 0, .int .i64 0] 30)) = V at j1 j2 j3 n1 n2 HBE ⊢
  have y0 : V.cell? ⟨W3.heap.size, 0, none⟩ = some (.slice ba 2 bc) := (cellO n1).trans rfl
  have y1 : V.cell? ⟨W3.heap.size, 1, none⟩ = some (.slice (some ⟨pg, 0, none⟩) 2 pc) := (cellO n1).trans rfl
  have y2 : V.cell? ⟨W3.heap.size, 2, none⟩ = some (.slice (some ⟨sg, 0, none⟩) 2 sc) := (cellO n1).trans rfl
  have y3 : V.cell? ⟨W3.heap.size + 1, 0, none⟩ = some (.int .i64 0) := (cellO n2).trans rfl
  clear n1 n2
  go_wp2_with fail
  go_ret
  exact ⟨rfl, HBE.out⟩
end
end Go.Proofs.YtdnbingddbakaaaDoor
