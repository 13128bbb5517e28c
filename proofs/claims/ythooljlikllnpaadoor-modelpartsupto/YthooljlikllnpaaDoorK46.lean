/- Chapter 7: EVALUATION: what eval tells of any expression, by induction. -/
import Derived.Test.YthooljlikllnpaaDoorK42
import Derived.Test.YthooljlikllnpaaDoorK41
import Derived.Test.YthooljlikllnpaaDoorK44
import Derived.Test.YthooljlikllnpaaDoorK45
namespace Go.Proofs.YthooljlikllnpaaDoor
set_option linter.unusedVariables false
set_option linter.unusedSimpArgs false
open Go.RowKit

/-- The store with a step less. -/
def less (σ : St) : St := { σ with left := σ.left - 1 }
/-- What is known behind the first step of an evaluation. -/
structure EV (B rb gb T f : Nat) (m : Mm) (σ : St) (c : Cor) (e : List Nat) (fp cb co g : Nat) (qa : Option Addr) (qc : Nat) (ka : Option Addr) (kc : Nat) (w W1 : World) : Prop where
  rel : Rel B rb gb m σ w
  hs : B ≤ w.heap.size
  hT : T ≤ B
  pos : 0 < σ.left
  left9 : σ.left ≤ 1000000
  c1 : w.cell? ⟨rb, 1, none⟩ = some (.int .i64 (σ.left : Int))
  z1 : w.frozen? ⟨rb, 1, none⟩ = false
  hne : rb ≠ cb
  hw1 : w.setCell ⟨rb, 1, none⟩ (.int .i64 ((σ.left : Int) - 1)) = W1
  C1 : Cur B rb gb m σ w m (less σ) W1
  E1 : Env B rb gb T f e fp m (less σ) W1
  hcb : cb < B
  nc : Nc W1 cb co c qa qc ka kc
  ok : NcOk c qc kc
  hd : Dc (fun k => k < B) W1 g qa c.quote.kids
  hk : Cc B W1 g ka c.kids
  wk : wkids c.kind c.kids.length = 0
  wf : wfields c ((cnt σ.rows e : Nat) : Int) = 0
  ar9 : cnt σ.rows e ≤ 600000
  kl : c.kids.length ≤ 3000
  q3 : c.kind = 3 → SmD c.quote
  kg : ∀ k ∈ c.kids, Gd (if c.kind = 8 then ((cnt σ.rows e : Nat) : Int) + c.index else ((cnt σ.rows e : Nat) : Int)) k
/-- What is asked of a kind. -/
def KOK (B rb gb T f : Nat) (k : Int) : Prop := ∀ (m : Mm) (σ : St) (c : Cor) (e : List Nat) (fp cb co g : Nat) (qa : Option Addr) (qc : Nat) (ka : Option Addr) (kc : Nat) (w W1 : World), EV B rb gb T f m σ c e fp cb co g qa qc ka kc w W1 → c.kind = k →
  Calls Tryd.prog 28 #[.pointer (some ⟨rb, 0, none⟩), .pointer (some ⟨cb, co, none⟩), .pointer (some ⟨fp, 0, none⟩)] w (ToldE B rb gb m σ w (evalB (evalF f) c e (less σ)))
theorem EV.row {B rb gb T f : Nat} {m : Mm} {σ : St} {c : Cor} {e : List Nat} {fp cb co g : Nat} {qa : Option Addr} {qc : Nat} {ka : Option Addr} {kc : Nat} {w W1 : World} (h : EV B rb gb T f m σ c e fp cb co g qa qc ka kc w W1) (h0 : c.kids ≠ []) (h8 : c.kind ≠ 8) : ∃ g' lb lo, ka = some ⟨lb, lo, none⟩ ∧ Ks B g' lb lo (cnt (less σ).rows e) c.kids W1 := by
  obtain ⟨g', b, o, _, h2, h3⟩ := h.hk.at h0
  refine ⟨g', b, o, h2, h3, fun k hk => ?_, h.kl⟩
  have := h.kg k hk
  rw [if_neg h8] at this
  exact this
theorem two_of {B rb gb : Nat} {m : Mm} {σ : St} {w w' : World} {r : Res Val × St} {e : Ending} (h : ToldE B rb gb m σ w r e w') : ((∃ t x, e = .returned (.iface t x)) ∨ ∃ q, e = .panicked q) ∧ ToldE B rb gb m σ w r e w' := ⟨h.two, h⟩
theorem ev1 (B rb gb T f : Nat) : KOK B rb gb T f 1 := by
  intro m σ c e fp cb co g qa qc ka kc w W1 h hk
  have hE : evalB (evalF f) c e (less σ) = (.ok (.num c.n), less σ) := by unfold evalB; rw [if_pos hk]
  rw [hE]
  have hf := h.wf
  unfold wfields at hf
  rw [if_pos hk] at hf
  have hr : inR c.n = true := by
    by_cases z : -1000000000000000 ≤ c.n ∧ c.n ≤ 1000000000000000
    · unfold inR; simp [z.1, z.2]
    · rw [if_neg z] at hf; simp at hf
  have k0 := h.nc.c0
  rw [hk] at k0
  exact ev_num rb cb co fp σ.left c.n _ w W1 (by have := h.pos; omega) (by have := h.left9; omega) h.hne h.c1 h.z1 h.hw1 k0 h.nc.c2 ⟨m, h.C1, rfl, hr, rfl⟩
theorem ev2 (B rb gb T f : Nat) : KOK B rb gb T f 2 := by
  intro m σ c e fp cb co g qa qc ka kc w W1 h hk
  have hE : evalB (evalF f) c e (less σ) = (.ok (.tru (decide (c.n = 1))), less σ) := by unfold evalB; rw [if_neg (by omega), if_pos hk]
  rw [hE]
  have k0 := h.nc.c0
  rw [hk] at k0
  refine ev_tru rb cb co fp σ.left c.n _ w W1 (by have := h.pos; omega) (by have := h.left9; omega) h.hne h.c1 h.z1 h.hw1 k0 h.nc.c2 ⟨m, h.C1, ?_, trivial, rfl⟩
  rw [beq_dec]
  rfl
theorem ev3 (B rb gb T f : Nat) : KOK B rb gb T f 3 := by
  intro m σ c e fp cb co g qa qc ka kc w W1 h hk
  have hE : evalB (evalF f) c e (less σ) = (.ok (quotedF c.quote (less σ)).1, (quotedF c.quote (less σ)).2) := by unfold evalB; rw [if_neg (by omega), if_neg (by omega), if_pos hk]
  rw [hE]
  have k0 := h.nc.c0
  rw [hk] at k0
  have sm := h.q3 hk
  have hD : DatM B W1 cb (co + 5) c.quote := ⟨h.hcb, qa, qc, h.nc.c5, h.nc.c6, h.nc.c7, h.nc.c10, fun h4 => DsV.of h.hd h.ok.2.2.2.1 (by cases sm with | mk _ _ _ _ q => exact q h4), h.hd.len, sm⟩
  refine ev_quote rb cb co fp σ.left _ w W1 (by have := h.pos; omega) (by have := h.left9; omega) h.hne h.c1 h.z1 h.hw1 k0 ?_
  refine (quoted_any B rb gb m (less σ) cb (co + 5) c.quote W1 h.E1.rel h.E1.hs hD).mono ?_
  rintro en w' ⟨m', h1, h2, h3, h4, h5⟩
  have hq := quoted_qt c.quote (less σ)
  refine two_of ⟨m', h.C1.trans ⟨h2, h.E1.sc.qt hq, RX.of hq.1, h3, KR.ofBelow h5⟩, h1, h4, hq.2.2⟩
theorem ev4 (B rb gb T f : Nat) : KOK B rb gb T f 4 := by
  intro m σ c e fp cb co g qa qc ka kc w W1 h hk
  have hE : evalB (evalF f) c e (less σ) = (.ok ((lookF (less σ).rows e c.index.toNat).getD .nil), less σ) := by unfold evalB; rw [if_neg (by omega), if_neg (by omega), if_neg (by omega), if_pos hk]
  rw [hE]
  have hf := h.wf
  unfold wfields at hf
  rw [if_neg (by omega), if_neg (by omega), if_pos (by omega)] at hf
  have hix : 0 ≤ c.index ∧ c.index < ((cnt σ.rows e : Nat) : Int) := by
    by_cases z : 0 ≤ c.index ∧ c.index < ((cnt σ.rows e : Nat) : Int)
    · exact z
    · rw [if_neg z] at hf; simp at hf
  have k0 := h.nc.c0
  rw [hk] at k0
  have k1 := h.nc.c1
  have ei : c.index = ((c.index.toNat : Nat) : Int) := by omega
  rw [ei] at k1
  generalize c.index.toNat = i at *
  refine ev_local rb cb co fp σ.left (i : Int) _ w W1 (by have := h.pos; omega) (by have := h.left9; omega) h.hne h.c1 h.z1 h.hw1 k0 k1 ?_
  refine (At_any m (less σ).rows fp e i W1 h.E1.fr h.ar9 (by show i < cnt σ.rows e; omega)).mono ?_
  rintro en w' ⟨r, s, hsp, rfl, hb⟩
  have C2 := h.C1.below hb h.E1.hs
  obtain ⟨hre, hsl⟩ := spots_ok _ e i r s hsp
  have hrl := h.E1.fr.len.2 r hre
  obtain ⟨c0, _, hvs, hblk⟩ := C2.rel.rowAt hrl
  have hv : ((less σ).rows.getD r [])[s]? = some (((less σ).rows.getD r [])[s]'hsl) := List.getElem?_eq_getElem hsl
  generalize ((less σ).rows.getD r [])[s] = v at hv
  have hl : (lookF (less σ).rows e i).getD .nil = v := by
    unfold lookF
    rw [hsp]
    simp only
    rw [hv]
    rfl
  rw [hl]
  refine ⟨_, _, vT v, vX m v, rfl, ?_, m, C2, rfl, hvs v (List.mem_of_getElem? hv), rfl⟩
  rw [cellO hblk]
  have e2 : (#[c0] ++ (((less σ).rows.getD r []).map (vV m)).toArray)[1 + s]? = (((less σ).rows.getD r []).map (vV m))[s]? := by
    rw [Array.getElem?_append_right (by simp)]
    simp
  rw [e2, List.getElem?_map, hv]
  rfl
theorem ev5 (B rb gb T f : Nat) : KOK B rb gb T f 5 := by
  intro m σ c e fp cb co g qa qc ka kc w W1 h hk
  have k0 := h.nc.c0
  rw [hk] at k0
  have hsm : smG (c.lib, c.own) := ⟨h.ok.1, h.ok.2.1⟩
  have hcw : cb < W1.heap.size := by have := h.E1.hs; have := h.hcb; omega
  have HG : ∀ W, Below W1.heap.size W1 W → Calls Tryd.prog 42 #[.pointer (some ⟨cb, co, none⟩)] W fun e w' => e = .returned (.agg #[.string c.lib, .string c.own]) ∧ Below W.heap.size W w' := fun W hb =>
    globalOf_any cb co c.lib c.own W ((hb.cell (p := ⟨cb, co + 3, none⟩) hcw).trans h.nc.c3) ((hb.cell (p := ⟨cb, co + 4, none⟩) hcw).trans h.nc.c4) (Nat.lt_of_lt_of_le hcw hb.size)
  have HM : ∀ W, Below W1.heap.size W1 W → W.cell? ⟨rb, 3, none⟩ = some (.map (some gb)) := fun W hb => by
    obtain ⟨tv, hR, _⟩ := (h.C1.below hb h.E1.hs).rel.run
    exact (cellO hR).trans rfl
  have HK : ∀ W, Below W1.heap.size W1 W → (Instr.lookup 55 (.map (some gb)) (.agg #[.string c.lib, .string c.own]) true).run Tryd.prog W = .ok (.tuple #[lookV m (globF (c.lib, c.own) σ.glob), .bool (globF (c.lib, c.own) σ.glob).isSome]) W := fun W hb => (h.C1.below hb h.E1.hs).rel.gl.look (c.lib, c.own) hsm
  cases hg : globF (c.lib, c.own) σ.glob with
  | none =>
    have hE : evalB (evalF f) c e (less σ) = (.bad 3, less σ) := by unfold evalB; rw [if_neg (by omega), if_neg (by omega), if_neg (by omega), if_neg (by omega), if_pos hk]; show (match globF (c.lib, c.own) σ.glob with | some v => _ | none => _) = _; rw [hg]
    rw [hE]
    rw [hg] at HK
    exact ev_globn rb cb co fp σ.left gb c.lib c.own _ w W1 (by have := h.pos; omega) (by have := h.left9; omega) h.hne h.c1 h.z1 h.hw1 k0 HM HG HK (fun W hb => ⟨m, h.C1.below hb h.E1.hs, rfl⟩)
  | some v =>
    have hE : evalB (evalF f) c e (less σ) = (.ok v, less σ) := by unfold evalB; rw [if_neg (by omega), if_neg (by omega), if_neg (by omega), if_neg (by omega), if_pos hk]; show (match globF (c.lib, c.own) σ.glob with | some v => _ | none => _) = _; rw [hg]
    rw [hE]
    have hv : VOk m v := by
      obtain ⟨es, clock, _, _, hx⟩ := h.E1.rel.gl.find (c.lib, c.own) hsm
      rcases hx with ⟨_, hx⟩ | ⟨j, v', born, _, _, hx, hok, _⟩
      · rw [show globF (c.lib, c.own) (less σ).glob = some v from hg] at hx; cases hx
      · rw [show globF (c.lib, c.own) (less σ).glob = some v from hg] at hx; cases hx; exact hok
    rw [hg] at HK
    exact ev_glob rb cb co fp σ.left gb c.lib c.own (vT v) (vX m v) _ w W1 (by have := h.pos; omega) (by have := h.left9; omega) h.hne h.c1 h.z1 h.hw1 k0 HM HG HK (fun W hb => ⟨m, h.C1.below hb h.E1.hs, rfl, hv, rfl⟩)
theorem ev6 (B rb gb T f : Nat) : KOK B rb gb T f 6 := by
  intro m σ c e fp cb co g qa qc ka kc w W1 h hk
  have hE : evalB (evalF f) c e (less σ) = (.ok (.prim c.own), less σ) := by unfold evalB; rw [if_neg (by omega), if_neg (by omega), if_neg (by omega), if_neg (by omega), if_neg (by omega), if_pos hk]
  rw [hE]
  have hf := h.wf
  unfold wfields at hf
  rw [if_neg (by omega), if_neg (by omega), if_neg (by omega), if_neg (by omega), if_pos hk] at hf
  have hp : argsB c.own ≠ 0 := by
    intro z
    rw [if_pos z] at hf
    simp at hf
  have k0 := h.nc.c0
  rw [hk] at k0
  exact ev_prim rb cb co fp σ.left c.own _ w W1 (by have := h.pos; omega) (by have := h.left9; omega) h.hne h.c1 h.z1 h.hw1 k0 h.nc.c4 ⟨m, h.C1, rfl, hp, rfl⟩
theorem wk_len {k : Int} {n : Nat} (h : wkids k n = 0) : (k = 8 ∨ k = 10 ∨ k = 11 ∨ k = 13 → n = 1) ∧ (k = 7 → n = 3) ∧ (k = 9 ∨ k = 12 → 1 ≤ n) ∧ (1 ≤ k ∧ k ≤ 13) := by
  unfold wkids at h
  refine ⟨fun hk => ?_, fun hk => ?_, fun hk => ?_, ?_⟩
  · rw [if_neg (by omega), if_pos hk] at h
    by_cases z : n = 1
    · exact z
    · rw [if_neg z] at h; simp at h
  · rw [if_neg (by omega), if_neg (by omega), if_pos hk] at h
    by_cases z : n = 3
    · exact z
    · rw [if_neg z] at h; simp at h
  · rw [if_neg (by omega), if_neg (by omega), if_neg (by omega), if_pos hk] at h
    by_cases z : 1 ≤ n
    · exact z
    · rw [if_neg z] at h; simp at h
  · by_cases z : 1 ≤ k ∧ k ≤ 13
    · exact z
    · rw [if_neg (by omega), if_neg (by omega), if_neg (by omega), if_neg (by omega)] at h
      simp at h
theorem ev7 (B rb gb T f : Nat) (IH : EOK B rb gb T f) : KOK B rb gb T f 7 := by
  intro m σ c e fp cb co g qa qc ka kc w W1 h hk
  have hl := (wk_len h.wk).2.1 hk
  obtain ⟨g', lb, lo, hka, hks⟩ := h.row (by intro z; rw [z] at hl; simp at hl) (by omega)
  have k0 := h.nc.c0
  rw [hk] at k0
  have k11 := h.nc.c11
  have hkc := h.ok.2.2.2.2
  rw [hl] at hkc
  rw [hka, hl] at k11
  match hks3 : c.kids, hl with
  | [x, y, z], _ =>
    have hE : evalB (evalF f) c e (less σ) = (bindR (evalF f x e (less σ)) fun v σ1 => if v = .tru false then evalF f z e σ1 else evalF f y e σ1) := by unfold evalB; rw [if_neg (by omega), if_neg (by omega), if_neg (by omega), if_neg (by omega), if_neg (by omega), if_neg (by omega), if_pos hk, hks3]; rfl
    rw [hE]
    rw [hks3] at hks
    refine ev_if rb cb co fp σ.left _ w W1 (by have := h.pos; omega) (by have := h.left9; omega) h.hne h.c1 h.z1 h.hw1 k0 ?_
    exact (chooseE B rb gb T f IH h.hT m (less σ) e fp cb co lb lo kc g' x y z W1 h.E1 hks hkc h.hcb k11).mono (fun en w' ht => two_of (ht.trans h.C1 rfl))
theorem ev8 (B rb gb T f : Nat) : KOK B rb gb T f 8 := by
  intro m σ c e fp cb co g qa qc ka kc w W1 h hk
  have hl := (wk_len h.wk).1 (Or.inl hk)
  obtain ⟨g', lb, lo, _, hka, hcn⟩ := h.hk.at (by intro z; rw [z] at hl; simp at hl)
  have hf := h.wf
  unfold wfields at hf
  rw [if_neg (by omega), if_neg (by omega), if_neg (by omega), if_pos hk] at hf
  have hix : 0 ≤ c.index ∧ c.index ≤ 2000 := by
    by_cases z : 0 ≤ c.index ∧ c.index ≤ 2000
    · exact z
    · rw [if_neg z] at hf; simp at hf
  have k0 := h.nc.c0
  rw [hk] at k0
  have k11 := h.nc.c11
  rw [hka, hl] at k11
  match hks : c.kids, hl with
  | [x], _ =>
    have hE : evalB (evalF f) c e (less σ) = (.ok (.proc σ.procs.length), { less σ with procs := σ.procs ++ [⟨c.index, x, e⟩] }) := by unfold evalB; rw [if_neg (by omega), if_neg (by omega), if_neg (by omega), if_neg (by omega), if_neg (by omega), if_neg (by omega), if_neg (by omega), if_pos hk, hks]; rfl
    rw [hE]
    have hd : Below W1.heap.size W1 W1.drew := Below.drew (Below.refl _ _)
    have C2 := h.C1.below hd h.E1.hs
    have hcx : Cn B W1 g' lb lo x := by
      have := hcn 0 x (by rw [hks]; rfl)
      rw [Nat.zero_mul, Nat.add_zero] at this
      exact this
    obtain ⟨g1, g2⟩ := C2.rel.proc (show B ≤ W1.drew.heap.size from h.E1.hs) c.index lb lo g' fp x e (hcx.below (hd.mono h.E1.hs)) (h.E1.fr.stay hd)
    have hgx : Gd (((cnt σ.rows e : Nat) : Int) + c.index) x := by
      have := h.kg x (by rw [hks]; simp)
      rw [if_pos hk] at this
      exact this
    refine ev_lam rb cb co fp σ.left c.index lb lo 1 kc _ w W1 (by have := h.pos; omega) (by have := h.left9; omega) h.hne h.c1 h.z1 h.hw1 k0 (by omega) (by omega) h.nc.c1 k11 ⟨_, C2.trans ⟨g1, ?_, RX.of rfl, g2, KR.ofBelow ((Below.refl _ _).alloc (Nat.le_refl _) _)⟩, ?_, ?_, rfl⟩
    · intro q hq
      rcases List.mem_append.1 hq with hq | hq
      · exact h.E1.sc q hq
      · simp at hq
        subst hq
        exact ⟨hix.1, hix.2, h.E1.fr.len.2, hgx⟩
    · show Ending.returned _ = Ending.returned (.iface 115 (.pointer (some ⟨(m.pc ++ [W1.heap.size]).getD σ.procs.length 0, 0, none⟩)))
      rw [← h.rel.lc]
      simp
    · show σ.procs.length < (m.pc ++ [W1.heap.size]).length
      rw [← h.rel.lc]
      simp
theorem ev9 (B rb gb T f : Nat) (IH : EOK B rb gb T f) : KOK B rb gb T f 9 := by
  intro m σ c e fp cb co g qa qc ka kc w W1 h hk
  have hl := (wk_len h.wk).2.2.1 (Or.inl hk)
  obtain ⟨g', lb, lo, hka, hks⟩ := h.row (by intro z; rw [z] at hl; simp at hl) (by omega)
  have k0 := h.nc.c0
  rw [hk] at k0
  have k11 := h.nc.c11
  rw [hka] at k11
  have hE : evalB (evalF f) c e (less σ) = bindR (allF (fun k => evalF f k e) c.kids (less σ)) fun vs σ1 => callF (evalF f) vs σ1 := by unfold evalB; rw [if_neg (by omega), if_neg (by omega), if_neg (by omega), if_neg (by omega), if_neg (by omega), if_neg (by omega), if_neg (by omega), if_neg (by omega), if_pos hk]
  rw [hE]
  refine ev_call rb cb co fp σ.left lb lo c.kids.length kc _ w W1 (by have := h.pos; omega) (by have := h.left9; omega) h.hne h.c1 h.z1 h.hw1 k0 k11 ?_
  refine (allE B rb gb T f IH h.hT m (less σ) e fp lb lo kc g' c.kids W1 h.E1 hks h.ok.2.2.2.2).mono ?_
  rintro en w' ⟨m', C2, hx⟩
  have hxt := all_ext (fun k => evalF f k e) (fun k τ => eval_ext f k e τ) c.kids (less σ)
  cases hr : allF (fun k => evalF f k e) c.kids (less σ) with
  | mk r s =>
    rw [hr] at C2 hx hxt
    cases r with
    | bad q => exact Or.inr ⟨_, hx, m', h.C1.trans C2, rfl⟩
    | ok vs =>
      obtain ⟨N, n1, n2, n3, n4, n5, n6, n7⟩ := hx
      match vs, n4, n5, n6 with
      | [], _, _, n6 => simp at n6; omega
      | v0 :: vr, n4, n5, n6 =>
        refine Or.inl ⟨N, _, n3, ?_⟩
        have hz : W1.heap.size = w.heap.size := by rw [← h.hw1]; simp
        have hca : CA B rb gb T f m σ w m' s w' N v0 vr := ⟨h.C1.trans C2, h.hs, h.hT, h.E1.tab.below ((C2.belowB h.E1.rel h.E1.hs).mono h.hT), by omega, n2, n4, n5, by have := h.kl; simp at n6; omega, n7, by rw [n7]; exact h.E1.calls, Nat.le_trans hxt.1 h.E1.left, Nat.lt_of_le_of_lt hxt.1 h.E1.fuel⟩
        have := callE IH hca
        rw [show vr.length + 1 = c.kids.length from n6] at this
        exact this.mono (fun en w' ht => two_of ht)
theorem ev12 (B rb gb T f : Nat) (IH : EOK B rb gb T f) : KOK B rb gb T f 12 := by
  intro m σ c e fp cb co g qa qc ka kc w W1 h hk
  have hl := (wk_len h.wk).2.2.1 (Or.inr hk)
  obtain ⟨g', lb, lo, hka, hks⟩ := h.row (by intro z; rw [z] at hl; simp at hl) (by omega)
  have k0 := h.nc.c0
  rw [hk] at k0
  have k11 := h.nc.c11
  rw [hka] at k11
  have hE : evalB (evalF f) c e (less σ) = lastF (fun k => evalF f k e) c.kids .nil (less σ) := by unfold evalB; rw [if_neg (by omega), if_neg (by omega), if_neg (by omega), if_neg (by omega), if_neg (by omega), if_neg (by omega), if_neg (by omega), if_neg (by omega), if_neg (by omega), if_pos hk]
  rw [hE]
  refine ev_seq rb cb co fp σ.left lb lo c.kids.length kc _ w W1 (by have := h.pos; omega) (by have := h.left9; omega) h.hne h.c1 h.z1 h.hw1 k0 k11 ?_
  exact (lastE B rb gb T f IH h.hT m (less σ) e fp lb lo kc g' c.kids W1 h.E1 hks h.ok.2.2.2.2 hl).mono (fun en w' ht => two_of (ht.trans h.C1 rfl))
theorem ev_set (B rb gb T f : Nat) (k : Int) (hk' : k = 10 ∨ k = 11 ∨ k = 13) (IH : EOK B rb gb T f) : KOK B rb gb T f k := by
  intro m σ c e fp cb co g qa qc ka kc w W1 h hk
  have hl := (wk_len h.wk).1 (by omega)
  obtain ⟨g', lb, lo, hka, hks⟩ := h.row (by intro z; rw [z] at hl; simp at hl) (by omega)
  have k0 := h.nc.c0
  rw [hk] at k0
  have k11 := h.nc.c11
  rw [hka, hl] at k11
  match hks3 : c.kids, hl with
  | [x], _ =>
    have hE : evalB (evalF f) c e (less σ) = bindR (evalF f x e (less σ)) fun v σ1 => setF c v e σ1 := by unfold evalB; rw [if_neg (by omega), if_neg (by omega), if_neg (by omega), if_neg (by omega), if_neg (by omega), if_neg (by omega), if_neg (by omega), if_neg (by omega), if_neg (by omega), if_neg (by omega), hks3]; rfl
    rw [hE]
    have HC : Calls Tryd.prog 28 #[.pointer (some ⟨rb, 0, none⟩), .pointer (some ⟨lb, lo, none⟩), .pointer (some ⟨fp, 0, none⟩)] W1 fun en w' => (∃ t y, en = .returned (.iface t y) ∧ Calls Tryd.prog 47 #[.pointer (some ⟨rb, 0, none⟩), .pointer (some ⟨cb, co, none⟩), .iface t y, .pointer (some ⟨fp, 0, none⟩)] w' fun e' w'' => ((∃ t x, e' = .returned (.iface t x)) ∨ ∃ q, e' = .panicked q) ∧ ToldE B rb gb m σ w (bindR (evalF f x e (less σ)) fun v σ1 => setF c v e σ1) e' w'') ∨ ∃ q, en = .panicked q ∧ ToldE B rb gb m σ w (bindR (evalF f x e (less σ)) fun v σ1 => setF c v e σ1) (.panicked q) w' := by
      have := IH.at h.E1 hks rfl (i := 0) (c := x) (by rw [hks3]; rfl)
      rw [Nat.zero_mul, Nat.add_zero] at this
      refine this.mono ?_
      rintro en w' ⟨m', C2, hx⟩
      have hxt := eval_ext f x e (less σ)
      cases hr : evalF f x e (less σ) with
      | mk r s =>
        rw [hr] at C2 hx hxt
        cases r with
        | bad q => exact Or.inr ⟨_, hx, m', h.C1.trans C2, rfl⟩
        | ok v =>
          obtain ⟨n1, n2, n3⟩ := hx
          refine Or.inl ⟨_, _, n1, ?_⟩
          have E2 := h.E1.go h.hT C2 hxt.1 n3
          have hb := C2.belowB h.E1.rel h.E1.hs
          have d0 := (hb.cell (p := ⟨cb, co, none⟩) h.hcb).trans k0
          have d1 := (hb.cell (p := ⟨cb, co + 1, none⟩) h.hcb).trans h.nc.c1
          have d3 := (hb.cell (p := ⟨cb, co + 3, none⟩) h.hcb).trans h.nc.c3
          have d4 := (hb.cell (p := ⟨cb, co + 4, none⟩) h.hcb).trans h.nc.c4
          have hsm : smG (c.lib, c.own) := ⟨h.ok.1, h.ok.2.1⟩
          show Calls _ _ _ _ fun e' w'' => _ ∧ ToldE B rb gb m σ w (setF c v e s) e' w''
          rcases hk' with rfl | rfl | rfl
          · have hf := h.wf
            unfold wfields at hf
            rw [if_neg (by omega), if_neg (by omega), if_pos (by omega)] at hf
            have hix : 0 ≤ c.index ∧ c.index < ((cnt σ.rows e : Nat) : Int) := by
              by_cases z : 0 ≤ c.index ∧ c.index < ((cnt σ.rows e : Nat) : Int)
              · exact z
              · rw [if_neg z] at hf; simp at hf
            have hcn : cnt s.rows e = cnt σ.rows e := h.E1.cnt C2
            have ei : c.index = ((c.index.toNat : Nat) : Int) := by omega
            rw [ei] at d1
            have hi : c.index.toNat < cnt s.rows e := by omega
            obtain ⟨⟨r, q⟩, hsp⟩ : ∃ p, (spotsF s.rows e)[c.index.toNat]? = some p := ⟨_, List.getElem?_eq_getElem (by rw [spots_len]; exact hi)⟩
            have hS : setF c v e s = (.ok v, { s with rows := s.rows.set r ((s.rows.getD r []).set q v) }) := by unfold setF; rw [if_pos hk, hsp]
            rw [hS]
            exact (set_local B rb gb T f m' s e fp cb co c.index.toNat v w' E2 n2 hi (by rw [hcn]; exact h.ar9) d0 d1 r q hsp).mono (fun en w' ht => two_of ((ht.trans C2 n3).trans h.C1 rfl))
          · have hS : setF c v e s = (if globF (c.lib, c.own) s.glob = none then (.bad 3, s) else (.ok v, { s with glob := setG (c.lib, c.own) v s.glob })) := by
              unfold setF
              rw [if_neg (by omega)]
              by_cases z : globF (c.lib, c.own) s.glob = none
              · rw [if_pos ⟨hk, z⟩, if_pos z]
              · rw [if_neg (fun q => z q.2), if_neg z]
            rw [hS]
            exact (set_global B rb gb T f m' s e fp cb co c.lib c.own v w' E2 n2 h.hcb hsm d0 d3 d4).mono (fun en w' ht => two_of ((ht.trans C2 n3).trans h.C1 rfl))
          · have hS : setF c v e s = (.ok v, { s with glob := setG (c.lib, c.own) v s.glob }) := by
              unfold setF
              rw [if_neg (by omega), if_neg (fun q => by have := q.1; omega)]
            rw [hS]
            exact (set_define B rb gb T f m' s e fp cb co c.lib c.own v w' E2 n2 h.hcb hsm d0 d3 d4).mono (fun en w' ht => two_of ((ht.trans C2 n3).trans h.C1 rfl))
    rcases hk' with rfl | rfl | rfl
    · exact ev_setl rb cb co fp σ.left lb lo 1 kc _ w W1 (by have := h.pos; omega) (by have := h.left9; omega) h.hne h.c1 h.z1 h.hw1 k0 (by omega) (by omega) k11 HC
    · exact ev_setg rb cb co fp σ.left lb lo 1 kc _ w W1 (by have := h.pos; omega) (by have := h.left9; omega) h.hne h.c1 h.z1 h.hw1 k0 (by omega) (by omega) k11 HC
    · exact ev_def rb cb co fp σ.left lb lo 1 kc _ w W1 (by have := h.pos; omega) (by have := h.left9; omega) h.hne h.c1 h.z1 h.hw1 k0 (by omega) (by omega) k11 HC
theorem eval_step (B rb gb T f : Nat) (hT : T ≤ B) (IH : EOK B rb gb T f) : EOK B rb gb T (f + 1) := by
  intro m σ c e fp cb co g w h sc hs tab hc hg hf hl hcal hlf
  rw [evalF]
  obtain ⟨tv, hR, _⟩ := h.run
  have c1 : w.cell? ⟨rb, 1, none⟩ = some (.int .i64 (σ.left : Int)) := (cellO hR).trans rfl
  have z1 := looseO (q := 1) hR
  by_cases h0 : σ.left = 0
  · rw [if_pos h0]
    rw [h0] at c1
    exact ev_stop rb cb co fp _ w c1 ⟨m, Cur.refl h sc, rfl⟩
  rw [if_neg h0]
  obtain ⟨W1, hW1⟩ : ∃ W1, W1 = w.setCell ⟨rb, 1, none⟩ (.int .i64 ((σ.left : Int) - 1)) := ⟨_, rfl⟩
  have el : ((σ.left : Int) - 1) = ((σ.left - 1 : Nat) : Int) := by omega
  have C1 : Cur B rb gb m σ w m (less σ) W1 := by
    have hr := h.run.step
    rw [el] at hr
    obtain ⟨g1, g2⟩ := h.runner hs 1 (.int .i64 ((σ.left - 1 : Nat) : Int)) (σ.left - 1) σ.calls hr
    rw [hW1, el]
    exact ⟨g1, sc.rx rfl (RX.of rfl), RX.of rfl, New.refl m w, g2⟩
  have E1 : Env B rb gb T f e fp m (less σ) W1 := by
    refine ⟨C1.rel, C1.sc, Nat.le_trans hs C1.kr.size, tab.below ((C1.belowB h hs).mono hT), Fr.go (σ' := less σ) hf h C1, ?_, hcal, ?_⟩
    · show σ.left - 1 ≤ 1000000; omega
    · show σ.left - 1 < f; omega
  obtain ⟨hcb, qa, qc, ka, kc, nc, ok, hd, hk⟩ := hc.below (C1.belowB h hs)
  cases hg with
  | mk _ _ g0 g1 g2 g3 g4 g5 =>
    have hEV : EV B rb gb T f m σ c e fp cb co g qa qc ka kc w W1 := ⟨h, hs, hT, by omega, hl, c1, z1, by have := h.hB; omega, hW1.symm, C1, E1, hcb, nc, ok, hd, hk, g1, g2, by omega, g3, g4, g5⟩
    have hkd := (wk_len g1).2.2.2
    show Calls _ _ _ _ (ToldE B rb gb m σ w (evalB (evalF f) c e (less σ)))
    have : c.kind = 1 ∨ c.kind = 2 ∨ c.kind = 3 ∨ c.kind = 4 ∨ c.kind = 5 ∨ c.kind = 6 ∨ c.kind = 7 ∨ c.kind = 8 ∨ c.kind = 9 ∨ c.kind = 10 ∨ c.kind = 11 ∨ c.kind = 12 ∨ c.kind = 13 := by omega
    rcases this with q | q | q | q | q | q | q | q | q | q | q | q | q
    · exact ev1 B rb gb T f m σ c e fp cb co g qa qc ka kc w W1 hEV q
    · exact ev2 B rb gb T f m σ c e fp cb co g qa qc ka kc w W1 hEV q
    · exact ev3 B rb gb T f m σ c e fp cb co g qa qc ka kc w W1 hEV q
    · exact ev4 B rb gb T f m σ c e fp cb co g qa qc ka kc w W1 hEV q
    · exact ev5 B rb gb T f m σ c e fp cb co g qa qc ka kc w W1 hEV q
    · exact ev6 B rb gb T f m σ c e fp cb co g qa qc ka kc w W1 hEV q
    · exact ev7 B rb gb T f IH m σ c e fp cb co g qa qc ka kc w W1 hEV q
    · exact ev8 B rb gb T f m σ c e fp cb co g qa qc ka kc w W1 hEV q
    · exact ev9 B rb gb T f IH m σ c e fp cb co g qa qc ka kc w W1 hEV q
    · exact ev_set B rb gb T f 10 (by omega) IH m σ c e fp cb co g qa qc ka kc w W1 hEV q
    · exact ev_set B rb gb T f 11 (by omega) IH m σ c e fp cb co g qa qc ka kc w W1 hEV q
    · exact ev12 B rb gb T f IH m σ c e fp cb co g qa qc ka kc w W1 hEV q
    · exact ev_set B rb gb T f 13 (by omega) IH m σ c e fp cb co g qa qc ka kc w W1 hEV q
/-- ANY EXPRESSION IS EVALUATED as evalF says. -/
theorem eval_any (B rb gb T : Nat) (hT : T ≤ B) : ∀ f, EOK B rb gb T f
  | 0 => fun m σ c e fp cb co g w h sc hs tab hc hg hf hl hcal hlf => absurd hlf (by omega)
  | f + 1 => eval_step B rb gb T f hT (eval_any B rb gb T hT f)
end Go.Proofs.YthooljlikllnpaaDoor
