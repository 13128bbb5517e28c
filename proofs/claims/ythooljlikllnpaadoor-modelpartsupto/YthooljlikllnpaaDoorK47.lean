/- Chapter 7: a run of parts. Chapter 7: WHAT Wrong AND Run TELL of any parts. Chapter 7: WHAT Run TELLS of any parts. -/
import Derived.Test.YthooljlikllnpaaDoorK25
import Derived.Test.YthooljlikllnpaaDoorK46
namespace Go.Proofs.YthooljlikllnpaaDoor
section
set_option linter.unusedVariables false
set_option linter.unusedSimpArgs false
open Go.RowKit

/-- Parts lie behind a place. -/
def PartsM (B : Nat) (w : World) (pb po : Nat) (ps : List (ByteArray × List Cor)) : Prop := ∀ (j : Nat) (nm : ByteArray) (b : List Cor), ps[j]? = some (nm, b) →
  w.cell? ⟨pb, po + j * 2, none⟩ = some (.string nm) ∧ ∃ a cap g, w.cell? ⟨pb, po + j * 2 + 1, none⟩ = some (.slice a b.length cap) ∧ Cc B w g a b ∧ b.length ≤ cap
theorem PartsM.below {B : Nat} {w w' : World} {pb po : Nat} {ps : List (ByteArray × List Cor)} (h : PartsM B w pb po ps) (hb : Below B w w') (hpb : pb < B) : PartsM B w' pb po ps := by
  intro j nm b hj
  obtain ⟨h1, a, cap, g, h2, h3, h4⟩ := h j nm b hj
  exact ⟨(hb.cell (p := ⟨pb, po + j * 2, none⟩) hpb).trans h1, a, cap, g, (hb.cell (p := ⟨pb, po + j * 2 + 1, none⟩) hpb).trans h2, h3.below hb, h4⟩
/-- The expressions of parts, one behind the other. -/
def bodies (ps : List (ByteArray × List Cor)) : List Cor := ps.flatMap (·.2)
/-- A cell of a number of one's own is set. -/
theorem Cur.own {B rb gb : Nat} {m0 m : Mm} {σ0 σ : St} {w0 w : World} (c : Cur B rb gb m0 σ0 w0 m σ w) {N q : Nat} {cs : Array Value} {v : Value} (hN : w.heap[N]? = some (.cells cs 3 (0, 0))) (hNw : w0.heap.size ≤ N) (hs : B ≤ w0.heap.size) : Cur B rb gb m0 σ0 w0 m σ (w.setCell ⟨N, q, none⟩ v) := by
  have hw : ∀ k, k ≠ N → (w.setCell ⟨N, q, none⟩ v).heap[k]? = w.heap[k]? := fun k hk => Below.heap_setCell _ _ _ _ (by simpa using hk)
  have hz : (w.setCell ⟨N, q, none⟩ v).heap.size = w.heap.size := by simp
  have hbB : Below B w (w.setCell ⟨N, q, none⟩ v) := ⟨rfl, rfl, rfl, by omega, fun k hk => hw k (by omega)⟩
  obtain ⟨tv, hR, _⟩ := c.rel.run
  have hr := c.rel.run.set (N := N) (q := q) (v := v) hN (by decide) (fun e => (ne_type hN hR (by decide)) e.symm)
  have hrel := c.rel.keep (fun k cs t hk ht => (hw k (by
    rintro rfl
    rw [hN] at hk
    simp only [Option.some.injEq, Obj.cells.injEq] at hk
    obtain ⟨_, rfl, _⟩ := hk
    simp at ht)).trans hk) hbB (hw gb (c.rel.gl.ne hN)) σ.out σ.left σ.calls hr
  exact ⟨hrel, c.sc, c.rx, c.nw, ⟨c.kr.os, c.kr.tape, c.kr.output, by have := c.kr.size; omega, fun k hk h1 h2 h3 h4 h5 => (hw k (by omega)).trans (c.kr.block k hk h1 h2 h3 h4 h5)⟩⟩
/-- What the loops of a run keep. -/
structure LR (B rb gb T : Nat) (m0 : Mm) (σ0 : St) (w0 : World) (all rest : List Cor) (m : Mm) (σ : St) (w : World) : Prop where
  cur : Cur B rb gb m0 σ0 w0 m σ w
  left : σ.left ≤ 1000000
  calls : σ.calls = σ0.calls
  sz : w0.heap.size < w.heap.size
  box : w.heap[w0.heap.size]? = some (.cells #[.int .i64 0] 3 (0, 0))
  run : runF all σ0 = runF rest σ
theorem LR.below {B rb gb T : Nat} {m0 m : Mm} {σ0 σ : St} {w0 w w' : World} {all rest : List Cor} (h : LR B rb gb T m0 σ0 w0 all rest m σ w) (hb : Below w.heap.size w w') (hs : B ≤ w0.heap.size) : LR B rb gb T m0 σ0 w0 all rest m σ w' :=
  ⟨h.cur.below hb (Nat.le_trans hs h.cur.kr.size), h.left, h.calls, Nat.lt_of_lt_of_le h.sz hb.size, (hb.block _ h.sz).trans h.box, h.run⟩
/-- One expression of a run. -/
theorem LR.eval {B rb gb T : Nat} (hT : T ≤ B) {m0 m : Mm} {σ0 σ : St} {w0 w : World} {all rest : List Cor} {c : Cor} (h : LR B rb gb T m0 σ0 w0 all (c :: rest) m σ w) (h0 : Rel B rb gb m0 σ0 w0) (hs : B ≤ w0.heap.size) (tab : Tab T w0) (hg : Gd 0 c) (hc9 : σ0.calls ≤ 200) {fp cb co g : Nat} (hc : Cn B w g cb co c) (hf : RF fp w) :
    Calls Tryd.prog 28 #[.pointer (some ⟨rb, 0, none⟩), .pointer (some ⟨cb, co, none⟩), .pointer (some ⟨fp, 0, none⟩)] w fun e w' => KR B rb gb m w w' ∧
      ((∃ t x m' s, e = .returned (.iface t x) ∧ LR B rb gb T m0 σ0 w0 all rest m' s w') ∨ ∃ q m', e = .panicked (endP q) ∧ (runF all σ0).1 = q ∧ Cur B rb gb m0 σ0 w0 m' (runF all σ0).2 w' ∧ w'.heap[w0.heap.size]? = some (.cells #[.int .i64 0] 3 (0, 0)) ∧ w0.heap.size < w'.heap.size) := by
  have hsw : B ≤ w.heap.size := Nat.le_trans hs h.cur.kr.size
  refine (eval_any B rb gb T hT (σ.left + 1) m σ c [] fp cb co g w h.cur.rel h.cur.sc hsw (tab.below ((h.cur.belowB h0 hs).mono hT)) hc (by simpa [cnt] using hg) (.root fp hf) h.left (by rw [h.calls]; exact hc9) (by omega)).mono ?_
  rintro e w' ⟨m', C2, hx⟩
  have hbx := C2.kr.at h.cur.rel h.box (by decide) (by decide) (by decide) (by decide)
  have hsz := Nat.lt_of_lt_of_le h.sz C2.kr.size
  have hxt := eval_ext (σ.left + 1) c [] σ
  have hrun := h.run
  rw [runF] at hrun
  refine ⟨C2.kr, ?_⟩
  cases hr : evalF (σ.left + 1) c [] σ with
  | mk r s =>
    rw [hr] at C2 hx hxt hrun
    cases r with
    | bad q =>
      refine Or.inr ⟨q, m', hx, by rw [hrun], ?_, hbx, hsz⟩
      rw [hrun]
      exact h.cur.trans C2
    | ok v =>
      obtain ⟨n1, n2, n3⟩ := hx
      exact Or.inl ⟨_, _, m', s, n1, h.cur.trans C2, Nat.le_trans hxt.1 h.left, n3.trans h.calls, hsz, hbx, hrun⟩
/-- What is told of a run. -/
def ToldG (B rb gb : Nat) (m : Mm) (σ : St) (w : World) (r : Int × St) (e : Ending) (w' : World) : Prop := ∃ m', e = .returned (.int .i64 r.1) ∧ Cur B rb gb m σ w m' r.2 w'
theorem root_new (w : World) : RF w.heap.size (w.alloc (.cells #[.slice none 0 0, .int .i64 0, .int .i64 0, .pointer none, .pointer none] 83)) := World.alloc_heap_new w _
set_option maxRecDepth 100000 in
set_option maxHeartbeats 3200000 in
/-- A RUN OF PARTS. -/
theorem run_any (B rb gb T pb po pcap : Nat) (hT : T ≤ B) (ps : List (ByteArray × List Cor)) (m : Mm) (σ : St) (w : World) (h : Rel B rb gb m σ w) (sc : Sc σ) (hs : B ≤ w.heap.size) (tab : Tab T w) (hpb : pb < B) (hp : PartsM B w pb po ps)
    (hg : ∀ p ∈ ps, ∀ c ∈ p.2, Gd 0 c) (hn : ps.length ≤ 40) (hn2 : ∀ p ∈ ps, p.2.length ≤ 200) (hl : σ.left ≤ 1000000) (hc9 : σ.calls ≤ 200) :
    Calls Tryd.prog 21 #[.pointer (some ⟨rb, 0, none⟩), .slice (some ⟨pb, po, none⟩) ps.length pcap] w (ToldG B rb gb m σ w (runF (bodies ps) σ)) := by
  have hmf : ∀ (fn : Fn) (first cap : Array Value) (w : World), (Instr.makeFunc fn first cap).run Tryd.prog w = .ok (.func fn first cap) w := fun _ _ _ _ => rfl
  have hba : Below w.heap.size w (w.alloc (.cells #[.int .i64 0] 3)) := (Below.refl _ _).alloc (Nat.le_refl _) _
  have H0 : Hid (LR B rb gb T m σ w (bodies ps) (bodies (ps.drop 0)) m σ (w.alloc (.cells #[.int .i64 0] 3))) := ⟨(Cur.refl h sc).below hba hs, hl, rfl, alloc_lt _ _, World.alloc_heap_new w _, by rw [List.drop_zero]⟩
  have HP := hidd hp
  have HBB : Hid (∀ m1 σ1 W all rest, LR B rb gb T m σ w all rest m1 σ1 W → Below B w W) := fun m1 σ1 W all rest L => L.cur.belowB h hs
  have HS : Hid (B ≤ w.heap.size ∧ pb < B) := ⟨hs, hpb⟩
  have HG : Hid (∀ (j i : Nat) (nm : ByteArray) (b : List Cor) (c : Cor), ps[j]? = some (nm, b) → b[i]? = some c → Gd 0 c) := fun j i nm b c h1 h2 => hg (nm, b) (List.mem_of_getElem? h1) c (List.mem_of_getElem? h2)
  have HB2 : Hid (∀ (j : Nat) (nm : ByteArray) (b : List Cor), ps[j]? = some (nm, b) → b.length ≤ 200) := fun j nm b h1 => hn2 (nm, b) (List.mem_of_getElem? h1)
  have HEV : Hid (∀ m1 σ1 W c rest fp cb co g, LR B rb gb T m σ w (bodies ps) (c :: rest) m1 σ1 W → Gd 0 c → Cn B W g cb co c → RF fp W → Calls Tryd.prog 28 #[.pointer (some ⟨rb, 0, none⟩), .pointer (some ⟨cb, co, none⟩), .pointer (some ⟨fp, 0, none⟩)] W fun e w' => KR B rb gb m1 W w' ∧
      ((∃ t x m' s, e = .returned (.iface t x) ∧ LR B rb gb T m σ w (bodies ps) rest m' s w') ∨ ∃ q m', e = .panicked (endP q) ∧ (runF (bodies ps) σ).1 = q ∧ Cur B rb gb m σ w m' (runF (bodies ps) σ).2 w' ∧ w'.heap[w.heap.size]? = some (.cells #[.int .i64 0] 3 (0, 0)) ∧ w.heap.size < w'.heap.size)) := fun m1 σ1 W c rest fp cb co g L hgc hcn hrf => L.eval hT h hs tab hgc hc9 hcn hrf
  obtain ⟨n, hn'⟩ : ∃ n, n = ps.length := ⟨_, rfl⟩
  have HN := hidd hn'
  rw [← hn'] at hn ⊢
  clear h sc tab hp hg hn2 hba hn'
  go_enter_defers Tryd.func21, Tryd.ntmps21
  go_wp2_with fail
  go_loopw [11] (fun ix wr => ∃ (j : Nat) (m1 : Mm) (σ1 : St), j ≤ n ∧ ix = .int .i64 j ∧ LR B rb gb T m σ w (bodies ps) (bodies (ps.drop j)) m1 σ1 wr) (fun ix _ => n - (intOf ix).toNat)
  case atStart => exact ⟨0, m, σ, Nat.zero_le _, rfl, H0.out⟩
  case round =>
    obtain ⟨j, m1, σ1, hj, rfl, hL⟩ := hrel
    have HL := hidd hL
    clear hL
    by_cases hlt : j < n
    · obtain ⟨nm, b, hjp⟩ : ∃ nm b, ps[j]? = some (nm, b) := ⟨_, _, List.getElem?_eq_getElem (by rw [← HN.out]; exact hlt)⟩
      obtain ⟨p0, a, cap, g, p1, hcc, hcap⟩ := HP.out j nm b hjp
      have q0 := ((HBB.out _ _ _ _ _ HL.out).cell (p := ⟨pb, po + j * 2, none⟩) HS.out.2).trans p0
      have q1 := ((HBB.out _ _ _ _ _ HL.out).cell (p := ⟨pb, po + j * 2 + 1, none⟩) HS.out.2).trans p1
      have hb9 := HB2.out j nm b hjp
      have hba : Below wr.heap.size wr (wr.alloc (.cells #[.string nm, .slice a b.length cap] 39)) := (Below.refl _ _).alloc (Nat.le_refl _) _
      have hdj : bodies (ps.drop j) = b ++ bodies (ps.drop (j + 1)) := by
        obtain ⟨hi, e⟩ := List.getElem?_eq_some_iff.1 hjp
        rw [List.drop_eq_getElem_cons hi, e]
        rfl
      have HI : Hid (LR B rb gb T m σ w (bodies ps) (b.drop 0 ++ bodies (ps.drop (j + 1))) m1 σ1 (wr.alloc (.cells #[.string nm, .slice a b.length cap] 39)) ∧ (wr.alloc (.cells #[.string nm, .slice a b.length cap] 39)).heap[wr.heap.size]? = some (.cells #[.string nm, .slice a b.length cap] 39 (0, 0))) := by
        refine ⟨?_, World.alloc_heap_new wr _⟩
        have := HL.out.below hba HS.out.1
        rw [hdj] at this
        exact this
      have HCC := hidd hcc
      have HJ := hidd hjp
      obtain ⟨k, hk⟩ : ∃ k, k = b.length := ⟨_, rfl⟩
      have HK := hidd hk
      obtain ⟨Nb, hNb⟩ : ∃ Nb, Nb = wr.heap.size := ⟨_, rfl⟩
      rw [← hk] at q1 hb9 HI hcap
      have HNb := hidd hNb
      clear p0 p1 hcc hba hdj hjp hk H0 hNb
      go_wp2_with fail
      have hNb := HNb.out
      clear HNb
      rw [← hNb] at HI ⊢
      clear hNb
      go_loopw [18] (fun ix wr2 => ∃ (i : Nat) (m2 : Mm) (σ2 : St), i ≤ k ∧ ix = .int .i64 i ∧ LR B rb gb T m σ w (bodies ps) (b.drop i ++ bodies (ps.drop (j + 1))) m2 σ2 wr2 ∧ wr2.heap[Nb]? = some (.cells #[.string nm, .slice a k cap] 39 (0, 0))) (fun ix _ => k - (intOf ix).toNat)
      case atStart => exact ⟨0, m1, σ1, Nat.zero_le _, rfl, HI.out.1, HI.out.2⟩
      case round =>
        obtain ⟨i, m2, σ2, hi, rfl, hL2, hbx⟩ := hrel
        have HL2 := hidd hL2
        have HBX := hidd hbx
        clear hL2 hbx
        by_cases hil : i < k
        · obtain ⟨c, hc⟩ : ∃ c, b[i]? = some c := ⟨_, List.getElem?_eq_getElem (by rw [← HK.out]; exact hil)⟩
          obtain ⟨g', cb, co, _, rfl, hcn⟩ := HCC.out.at (by rintro rfl; simp at hc)
          have d1 : wr.cell? ⟨Nb, 1, none⟩ = some (.slice (some ⟨cb, co, none⟩) k cap) := (cellO HBX.out).trans rfl
          have hba : Below wr.heap.size wr (wr.alloc (.cells #[.slice none 0 0, .int .i64 0, .int .i64 0, .pointer none, .pointer none] 83)) := (Below.refl _ _).alloc (Nat.le_refl _) _
          have HL3 : Hid (LR B rb gb T m σ w (bodies ps) (c :: (b.drop (i + 1) ++ bodies (ps.drop (j + 1)))) m2 σ2 (wr.alloc (.cells #[.slice none 0 0, .int .i64 0, .int .i64 0, .pointer none, .pointer none] 83))) := by
            have := HL2.out.below hba HS.out.1
            obtain ⟨hi, e⟩ := List.getElem?_eq_some_iff.1 hc
            rw [List.drop_eq_getElem_cons hi, e] at this
            exact this
          have HB3 : Hid ((wr.alloc (.cells #[.slice none 0 0, .int .i64 0, .int .i64 0, .pointer none, .pointer none] 83)).heap[Nb]? = some (.cells #[.string nm, .slice (some ⟨cb, co, none⟩) k cap] 39 (0, 0))) := (hba.block Nb (Array.getElem?_eq_some_iff.1 HBX.out).1).trans HBX.out
          have HC := hidd (HEV.out m2 σ2 _ c _ wr.heap.size cb (co + i * 12) g' HL3.out (HG.out j i nm b c HJ.out hc) ((hcn i c hc).below (HBB.out _ _ _ _ _ HL3.out)) (root_new wr))
          clear hba hc hcn
          go_wp2_with fail
          refine HC.out.mono ?_
          rintro en w3 ⟨kr, hq⟩
          have HB4 := hidd (kr.at HL3.out.cur.rel HB3.out (by decide) (by decide) (by decide) (by decide))
          clear kr HC
          rcases hq with ⟨t, x, m3, s, rfl, hL4⟩ | ⟨q, m3, rfl, hq1, hq2, hq3, hq4⟩
          · have HL4 := hidd hL4
            clear hL4
            go_wp2_with fail
            go_roundw
            case rel => exact ⟨i + 1, m3, s, hil, by go_num, HL4.out, HB4.out⟩
            case measure => simp [intOf]; omega
          · have g0 : w3.cell? ⟨w.heap.size, 0, none⟩ = some (.int .i64 0) := (cellO hq3).trans rfl
            have y0 : w3.frozen? ⟨w.heap.size, 0, none⟩ = false := looseO hq3
            have HT : Hid (∀ w2, Below w3.heap.size w3 w2 → ToldG B rb gb m σ w (runF (bodies ps) σ) (.returned (.int .i64 q)) (w2.setCell ⟨w.heap.size, 0, none⟩ (.int .i64 q))) := fun w2 hb2 => ⟨m3, by rw [hq1], (hq2.below hb2 (Nat.le_trans HS.out.1 (Nat.le_of_lt hq4))).own ((hb2.block _ hq4).trans hq3) (Nat.le_refl _) HS.out.1⟩
            have hN3 := hq4
            clear hq1 hq2 hq3 hq4
            go_wp2_with fail
            show bodyPostD _ _ _ _ _ _
            refine leaves_cons (f := 26) (args := #[.pointer (some ⟨w.heap.size, 0, none⟩)]) (by simp) (by simp [go_sem]) ?_
            refine (catch_ended w.heap.size q 0 w3 hN3 g0 y0).mono ?_
            rintro e u' w'' ⟨rfl, rfl, w2, hb2, rfl⟩
            have k2 := (hb2.cell (p := ⟨w.heap.size, 0, none⟩) hN3).trans g0
            have ht := HT.out w2 hb2
            simp [Leaves, settle, results, Tryd.results21, go_sem, k2, ht]
        · obtain rfl : i = k := by omega
          have HL4 : Hid (LR B rb gb T m σ w (bodies ps) (bodies (ps.drop (j + 1))) m2 σ2 wr) := by
            have := HL2.out
            rw [List.drop_eq_nil_of_le (by rw [HK.out]; exact Nat.le_refl _), List.nil_append] at this
            exact this
          clear HI HL2 HBX HEV
          go_wp2_with fail
          go_roundw
          case rel => exact ⟨j + 1, m2, σ2, hlt, by go_num, HL4.out⟩
          case measure => simp [intOf]; omega
    · obtain rfl : j = n := by omega
      have hbx := HL.out.box
      have g0 : wr.cell? ⟨w.heap.size, 0, none⟩ = some (.int .i64 0) := (cellO hbx).trans rfl
      have y0 : wr.frozen? ⟨w.heap.size, 0, none⟩ = false := looseO hbx
      have HT : Hid (ToldG B rb gb m σ w (runF (bodies ps) σ) (.returned (.int .i64 1)) (wr.setCell ⟨w.heap.size, 0, none⟩ (.int .i64 1))) := by
        have hr := HL.out.run
        rw [List.drop_eq_nil_of_le (by rw [← HN.out]; exact Nat.le_refl _)] at hr
        have hr : runF (bodies ps) σ = (1, σ1) := hr
        rw [hr]
        exact ⟨m1, rfl, HL.out.cur.own hbx (Nat.le_refl _) HS.out.1⟩
      clear hbx HEV H0
      go_wp2_with fail
      refine leaves_cons (f := 26) (args := #[.pointer (some ⟨w.heap.size, 0, none⟩)]) (by simp) (by simp [go_sem]) ?_
      refine (catch_idle _ _).mono ?_
      rintro e u' w4 ⟨rfl, rfl, rfl⟩
      have ht := HT.out
      simp [Leaves, settle, results, Tryd.results21, go_sem, g0, ht]
end
section
set_option linter.unusedVariables false
set_option linter.unusedSimpArgs false
open Go.RowKit

/-- What is wrong with parts first, and with which. -/
def wrongZ : List (ByteArray × List Cor) → Nat → Int × Int
  | [], _ => (0, 0)
  | p :: r, i => if wrongB p.2 = 0 then wrongZ r (i + 1) else (wrongB p.2, (i : Int))
def wrongP (ps : List (ByteArray × List Cor)) : Int × Int := if 40 < ps.length then (5, 0) else wrongZ ps 0
/-- Parts, as a slice. -/
def PsV (B : Nat) (w : World) (sa : Option Addr) (ps : List (ByteArray × List Cor)) : Prop := ps.length ≤ 9223372036854775807 ∧ (ps = [] ∨ ∃ pb po, sa = some ⟨pb, po, none⟩ ∧ pb < B ∧ PartsM B w pb po ps)
theorem PsV.below {B : Nat} {w w' : World} {sa : Option Addr} {ps : List (ByteArray × List Cor)} (h : PsV B w sa ps) (hb : Below B w w') : PsV B w' sa ps := by
  obtain ⟨h0, h⟩ := h
  refine ⟨h0, ?_⟩
  rcases h with h | ⟨pb, po, h1, h2, h3⟩
  · exact Or.inl h
  · exact Or.inr ⟨pb, po, h1, h2, h3.below hb h2⟩
theorem PsV.up {B B' : Nat} {w : World} {sa : Option Addr} {ps : List (ByteArray × List Cor)} (h : PsV B w sa ps) (hB : B ≤ B') : PsV B' w sa ps := by
  obtain ⟨h0, h⟩ := h
  refine ⟨h0, ?_⟩
  rcases h with h | ⟨pb, po, h1, h2, h3⟩
  · exact Or.inl h
  · refine Or.inr ⟨pb, po, h1, by omega, fun j nm b hj => ?_⟩
    obtain ⟨q1, a, cap, g, q2, q3, q4⟩ := h3 j nm b hj
    exact ⟨q1, a, cap, g, q2, Cc.up hB g a b q3, q4⟩
theorem wz_drop (ps : List (ByteArray × List Cor)) (i : Nat) (nm : ByteArray) (b : List Cor) (h : ps[i]? = some (nm, b)) : wrongZ (ps.drop i) i = if wrongB b = 0 then wrongZ (ps.drop (i + 1)) (i + 1) else (wrongB b, (i : Int)) := by
  obtain ⟨hi, e⟩ := List.getElem?_eq_some_iff.1 h
  rw [List.drop_eq_getElem_cons hi, e, wrongZ]
set_option maxRecDepth 100000 in
set_option maxHeartbeats 3200000 in
theorem WrongPs_any (B : Nat) (ps : List (ByteArray × List Cor)) (sa : Option Addr) (scap : Nat) (w : World) (hp : PsV B w sa ps) (hB : B ≤ w.heap.size) :
    Calls Tryd.prog 10 #[.slice sa ps.length scap] w fun e w' => e = .returned (fv (wrongP ps)) ∧ Below w.heap.size w w' := by
  obtain ⟨hlen, hp⟩ := hp
  have HA := hidd (Af.start w)
  have c0 : (w.alloc (.cells #[.int .i64 0, .int .i64 0] 28)).cell? ⟨w.heap.size, 0, none⟩ = some (.int .i64 0) := (cellO HA.out.box).trans rfl
  have c1 : (w.alloc (.cells #[.int .i64 0, .int .i64 0] 28)).cell? ⟨w.heap.size, 1, none⟩ = some (.int .i64 0) := (cellO HA.out.box).trans rfl
  by_cases h40 : 40 < ps.length
  · have e : wrongP ps = (5, 0) := by unfold wrongP; rw [if_pos h40]
    rw [e]
    have hd : decide ((ps.length : Int) > 40) = true := by simp; omega
    have hd' : (40 : Int) < (ps.length : Int) := by omega
    clear hp e
    generalize ps.length = n at *
    go_enter Tryd.func10, Tryd.ntmps10
    go_wp2_with fail
    refine bodyPost_ret (v := fv (5, 0)) (by simp [results, Tryd.results10, go_sem, fv, c0, c1]) rfl ⟨rfl, (Below.refl _ _).alloc (Nat.le_refl _) _⟩
  · have e : wrongP ps = wrongZ ps 0 := by unfold wrongP; rw [if_neg h40]
    rw [e]
    have hd : decide ((ps.length : Int) > 40) = false := by simp; omega
    have hd' : ¬ (40 : Int) < (ps.length : Int) := by omega
    have HP : Hid (∀ j nm b, ps[j]? = some (nm, b) → ∃ pb po, sa = some ⟨pb, po, none⟩ ∧ pb < w.heap.size ∧ w.cell? ⟨pb, po + j * 2, none⟩ = some (.string nm) ∧ ∃ a cap, w.cell? ⟨pb, po + j * 2 + 1, none⟩ = some (.slice a b.length cap) ∧ b.length ≤ 9223372036854775807 ∧ ∀ W, Below w.heap.size w W → Calls Tryd.prog 23 #[.agg #[.string nm, .slice a b.length cap]] W fun e w' => e = .returned (.int .i64 (wrongB b)) ∧ Below W.heap.size W w') := fun j nm b hj => by
      rcases hp with rfl | ⟨pb, po, h1, h2, h3⟩
      · simp at hj
      · obtain ⟨q1, a, cap, g, q2, q3, q4⟩ := h3 j nm b hj
        exact ⟨pb, po, h1, by omega, q1, a, cap, q2, q3.len, fun W hb => wrongPart_any B g nm b a cap W (q3.below (hb.mono hB)) (Nat.le_trans hB hb.size) q4⟩
    obtain ⟨n, hn⟩ : ∃ n, n = ps.length := ⟨_, rfl⟩
    have HN := hidd hn
    have hn40 : n ≤ 40 := by omega
    rw [← hn] at hd hd' ⊢
    obtain ⟨R, hR⟩ : ∃ R, R = wrongZ ps 0 := ⟨_, rfl⟩
    have HR := hidd hR
    rw [← hR]
    clear hp e hn h40 hlen hR c0 c1
    go_enter Tryd.func10, Tryd.ntmps10
    go_wp2_with fail
    go_loopw [12] (fun i wr => ∃ j : Nat, j ≤ n ∧ i = .int .i64 j ∧ Hid (Af w wr) ∧ Hid (R = wrongZ (ps.drop j) j)) (fun i _ => n - (intOf i).toNat)
    case atStart => exact ⟨0, by omega, rfl, HA.out, HR.out⟩
    case round =>
      clear HA HR
      obtain ⟨j, hj, rfl, HA, HY⟩ := hrel
      by_cases hlt : j < n
      · obtain ⟨nm, b, hjp⟩ : ∃ nm b, ps[j]? = some (nm, b) := ⟨_, _, List.getElem?_eq_getElem (by rw [← HN.out]; exact hlt)⟩
        obtain ⟨pb, po, hsa, hpb, p0, a, cap, p1, hbl, hw⟩ := HP.out j nm b hjp
        subst hsa
        have d0 := (HA.out.below.cell (p := ⟨pb, po + j * 2, none⟩) hpb).trans p0
        have d1 := (HA.out.below.cell (p := ⟨pb, po + j * 2 + 1, none⟩) hpb).trans p1
        have WP := hidd hw
        have HZ := hidd (HY.out.trans (wz_drop ps j nm b hjp))
        have ba : Below wr.heap.size wr (wr.alloc (.cells #[.string nm, .slice a b.length cap] 39)) := (Below.refl _ _).alloc (Nat.le_refl _) _
        have HA2 := hidd (HA.out.next ba)
        clear ba p0 p1 HY hw hjp HP
        generalize wrongB b = y at *
        generalize b.length = bl at *
        go_wp2_with fail
        refine (WP.out _ HA2.out.below).mono ?_
        rintro e w2 ⟨rfl, hb2⟩
        have HA3 := hidd (HA2.out.next hb2)
        have q0 : w2.cell? ⟨w.heap.size, 0, none⟩ = some (.int .i64 0) := by simp [World.cell?, HA3.out.box]
        have q1 : w2.cell? ⟨w.heap.size, 1, none⟩ = some (.int .i64 0) := by simp [World.cell?, HA3.out.box]
        have z0 : w2.frozen? ⟨w.heap.size, 0, none⟩ = false := by simp [World.frozen?, HA3.out.box]
        have z1 : w2.frozen? ⟨w.heap.size, 1, none⟩ = false := by simp [World.frozen?, HA3.out.box]
        clear hb2 HA HA2 d0 d1 WP
        by_cases y0 : y = 0
        · subst y0
          have HZ2 : Hid (R = wrongZ (ps.drop (j + 1)) (j + 1)) := by
            have := HZ.out
            rw [if_pos rfl] at this
            exact this
          go_wp2_with fail
          go_roundw
          case rel => exact ⟨j + 1, hlt, by go_num, HA3.out, HZ2.out⟩
          case measure => simp [intOf]; omega
        · have y0' : (y != 0) = true := by simpa using y0
          have hz := HZ.out
          rw [if_neg y0] at hz
          subst hz
          clear HZ
          go_wp2_with fail
          refine bodyPost_ret (v := fv (y, (j : Int))) (by simp [results, Tryd.results10, go_sem, fv, q0, q1]) rfl ⟨rfl, HA3.out.set _ _⟩
      · obtain rfl : j = n := by omega
        have hz := HY.out
        rw [List.drop_eq_nil_of_le (by rw [← HN.out]; exact Nat.le_refl _)] at hz
        have hz : R = (0, 0) := hz
        subst hz
        have q0 : wr.cell? ⟨w.heap.size, 0, none⟩ = some (.int .i64 0) := by simp [World.cell?, HA.out.box]
        have q1 : wr.cell? ⟨w.heap.size, 1, none⟩ = some (.int .i64 0) := by simp [World.cell?, HA.out.box]
        have z0 : wr.frozen? ⟨w.heap.size, 0, none⟩ = false := by simp [World.frozen?, HA.out.box]
        have z1 : wr.frozen? ⟨w.heap.size, 1, none⟩ = false := by simp [World.frozen?, HA.out.box]
        clear HP HY
        go_wp2_with fail
        refine bodyPost_ret (v := fv (0, 0)) (by simp [results, Tryd.results10, go_sem, fv, q0, q1]) rfl ⟨rfl, HA.out.set _ _⟩
end
section
set_option linter.unusedVariables false
set_option linter.unusedSimpArgs false
open Go.RowKit

/-- What a run tells: how it ended, what was put out, what is wrong. -/
def modelR (ps : List (ByteArray × List Cor)) (steps : Int) : (Int × List (List UInt8)) × (Int × Int) :=
  if (wrongP ps).1 = 0 then
    if steps < 0 ∨ 1000000 < steps then ((0, []), (3, 0))
    else (((runF (bodies ps) (st0 steps.toNat)).1, (runF (bodies ps) (st0 steps.toNat)).2.out), (0, 0))
  else ((0, []), wrongP ps)
/-- What is told of what Run tells. -/
def ToldM (w : World) (r : (Int × List (List UInt8)) × (Int × Int)) (e : Ending) (w' : World) : Prop := Below w.heap.size w w' ∧ ∃ a n c, e = .returned (.tuple #[.agg #[.int .i64 r.1.1, .slice a n c], fv r.2]) ∧ TM r.1.2 a n c w' ∧ r.1.2.length ≤ maxLen
theorem TM.nil (c : Nat) (a : Option Addr) (W : World) : TM [] a 0 c W := ⟨rfl, Nat.zero_le _, Or.inl rfl⟩
set_option maxRecDepth 100000 in
set_option maxHeartbeats 3200000 in
theorem Run_wrong (sa : Option Addr) (n cap : Nat) (steps : Int) (x y : Int) (hx : ¬ x = 0) (w : World)
    (HW : ∀ W, Below w.heap.size w W → Calls Tryd.prog 10 #[.slice sa n cap] W fun e w' => e = .returned (fv (x, y)) ∧ Below W.heap.size W w') :
    Calls Tryd.prog 8 #[.slice sa n cap, .int .i64 steps] w (ToldM w ((0, []), (x, y))) := by
  have HWH := hidd HW
  clear HW
  have hd : (x != 0) = true := by simpa using hx
  unfold fv at *
  go_enter Tryd.func8, Tryd.ntmps8
  go_wp2_with fail
  refine (HWH.out _ (((Below.refl _ _).alloc (Nat.le_refl _) _).alloc (by simp) _)).mono ?_
  rintro e w1 ⟨rfl, hb1⟩
  obtain ⟨W0, hW0⟩ : ∃ W0, W0 = (w.alloc (.cells #[.int .i64 0, .slice none 0 0] 25)).alloc (.cells #[.int .i64 0, .int .i64 0] 28) := ⟨_, rfl⟩
  have hbW0 : Below w.heap.size w W0 := by rw [hW0]; exact ((Below.refl _ _).alloc (Nat.le_refl _) _).alloc (by simp) _
  have hs0 : W0.heap.size = w.heap.size + 2 := by rw [hW0]; simp
  have a0 : W0.heap[w.heap.size]? = some (.cells #[.int .i64 0, .slice none 0 0] 25 (0, 0)) := by rw [hW0, Below.heap_alloc _ _ _ (alloc_lt _ _)]; exact World.alloc_heap_new w _
  have a1 : W0.heap[w.heap.size + 1]? = some (.cells #[.int .i64 0, .int .i64 0] 28 (0, 0)) := by
    rw [hW0]
    have := World.alloc_heap_new (w.alloc (.cells #[.int .i64 0, .slice none 0 0] 25)) (.cells #[.int .i64 0, .int .i64 0] 28)
    simpa using this
  rw [← hW0] at hb1
  clear hW0
  have hb2 : Below W0.heap.size W0 (w1.alloc (.cells #[.int .i64 x, .int .i64 y] 28)) := hb1.alloc hb1.size _
  have hA := (hb2.block _ (by omega)).trans a0
  have hA1 := (hb2.block _ (by omega)).trans a1
  have BF : Hid (Below w.heap.size w (w1.alloc (.cells #[.int .i64 x, .int .i64 y] 28))) := hbW0.trans (hb2.mono (by omega))
  have hbx := box_new w1 #[.int .i64 x, .int .i64 y] 28
  have e0 : (w1.alloc (.cells #[.int .i64 x, .int .i64 y] 28)).cell? ⟨w1.heap.size, 0, none⟩ = some (.int .i64 x) := (cellO hbx).trans rfl
  have e1 : (w1.alloc (.cells #[.int .i64 x, .int .i64 y] 28)).cell? ⟨w1.heap.size, 1, none⟩ = some (.int .i64 y) := (cellO hbx).trans rfl
  have c0 : (w1.alloc (.cells #[.int .i64 x, .int .i64 y] 28)).cell? ⟨w.heap.size, 0, none⟩ = some (.int .i64 0) := (cellO hA).trans rfl
  have c1 : (w1.alloc (.cells #[.int .i64 x, .int .i64 y] 28)).cell? ⟨w.heap.size, 1, none⟩ = some (.slice none 0 0) := (cellO hA).trans rfl
  have d0 : (w1.alloc (.cells #[.int .i64 x, .int .i64 y] 28)).cell? ⟨w.heap.size + 1, 0, none⟩ = some (.int .i64 0) := (cellO hA1).trans rfl
  have d1 : (w1.alloc (.cells #[.int .i64 x, .int .i64 y] 28)).cell? ⟨w.heap.size + 1, 1, none⟩ = some (.int .i64 0) := (cellO hA1).trans rfl
  have f0 : (w1.alloc (.cells #[.int .i64 x, .int .i64 y] 28)).frozen? ⟨w.heap.size, 0, none⟩ = false := looseO hA
  have f1 : (w1.alloc (.cells #[.int .i64 x, .int .i64 y] 28)).frozen? ⟨w.heap.size, 1, none⟩ = false := looseO hA
  have g0 : (w1.alloc (.cells #[.int .i64 x, .int .i64 y] 28)).frozen? ⟨w.heap.size + 1, 0, none⟩ = false := looseO hA1
  have g1 : (w1.alloc (.cells #[.int .i64 x, .int .i64 y] 28)).frozen? ⟨w.heap.size + 1, 1, none⟩ = false := looseO hA1
  have hl1 : w.heap.size + 1 < w1.heap.size := by have := hb1.size; omega
  obtain ⟨W2, hW2⟩ : ∃ W2, W2 = w1.alloc (.cells #[.int .i64 x, .int .i64 y] 28) := ⟨_, rfl⟩
  rw [← hW2] at e0 e1 c0 c1 d0 d1 f0 f1 g0 g1 BF
  have hw2 := hW2.symm
  clear hbW0 hs0 a0 a1 hb1 hb2 hA hA1 hbx HWH hW2
  go_wp2_with fail
  go_region
  all_goals
    go_wp2_with fail
    refine bodyPost_ret (v := .tuple #[.agg #[.int .i64 0, .slice none 0 0], .agg #[.int .i64 x, .int .i64 y]]) (by simp [results, Tryd.results8, go_sem, c0, c1, d0, d1]) rfl ⟨?_, none, 0, 0, rfl, TM.nil 0 none _, Nat.zero_le _⟩
    exact ((((Below.drew BF.out).setCell (p := ⟨w.heap.size, 0, none⟩) (Nat.le_refl _) _).setCell (p := ⟨w.heap.size, 1, none⟩) (Nat.le_refl _) _).setCell (p := ⟨w.heap.size + 1, 0, none⟩) (Nat.le_succ _) _).setCell (p := ⟨w.heap.size + 1, 1, none⟩) (Nat.le_succ _) _
set_option maxRecDepth 100000 in
set_option maxHeartbeats 3200000 in
theorem Run_range (sa : Option Addr) (n cap : Nat) (steps : Int) (hst : steps < 0 ∨ 1000000 < steps) (w : World)
    (HW : ∀ W, Below w.heap.size w W → Calls Tryd.prog 10 #[.slice sa n cap] W fun e w' => e = .returned (fv (0, 0)) ∧ Below W.heap.size W w') :
    Calls Tryd.prog 8 #[.slice sa n cap, .int .i64 steps] w (ToldM w ((0, []), (3, 0))) := by
  have HWH := hidd HW
  clear HW
  unfold fv at *
  have hd : decide (steps < 0) = true ∨ (decide (steps < 0) = false ∧ decide (steps > 1000000) = true ∧ decide (1000000 < steps) = true) := by
    by_cases z : steps < 0
    · exact Or.inl (by simp [z])
    · exact Or.inr ⟨by simp; omega, by simp; omega, by simp; omega⟩
  clear hst
  have START : Hid (∀ w1, Below ((w.alloc (.cells #[.int .i64 0, .slice none 0 0] 25)).alloc (.cells #[.int .i64 0, .int .i64 0] 28)).heap.size ((w.alloc (.cells #[.int .i64 0, .slice none 0 0] 25)).alloc (.cells #[.int .i64 0, .int .i64 0] 28)) w1 → Below w.heap.size w (w1.alloc (.cells #[.int .i64 0, .int .i64 0] 28)) ∧ (w1.alloc (.cells #[.int .i64 0, .int .i64 0] 28)).heap[w.heap.size]? = some (.cells #[.int .i64 0, .slice none 0 0] 25 (0, 0)) ∧ (w1.alloc (.cells #[.int .i64 0, .int .i64 0] 28)).heap[w.heap.size + 1]? = some (.cells #[.int .i64 0, .int .i64 0] 28 (0, 0))) := fun w1 hb1 => by
    have hbW0 : Below w.heap.size w ((w.alloc (.cells #[.int .i64 0, .slice none 0 0] 25)).alloc (.cells #[.int .i64 0, .int .i64 0] 28)) := ((Below.refl _ _).alloc (Nat.le_refl _) _).alloc (by simp) _
    have hs0 : ((w.alloc (.cells #[.int .i64 0, .slice none 0 0] 25)).alloc (.cells #[.int .i64 0, .int .i64 0] 28)).heap.size = w.heap.size + 2 := by simp
    have a0 : ((w.alloc (.cells #[.int .i64 0, .slice none 0 0] 25)).alloc (.cells #[.int .i64 0, .int .i64 0] 28)).heap[w.heap.size]? = some (.cells #[.int .i64 0, .slice none 0 0] 25 (0, 0)) := by rw [Below.heap_alloc _ _ _ (alloc_lt _ _)]; exact World.alloc_heap_new w _
    have a1 : ((w.alloc (.cells #[.int .i64 0, .slice none 0 0] 25)).alloc (.cells #[.int .i64 0, .int .i64 0] 28)).heap[w.heap.size + 1]? = some (.cells #[.int .i64 0, .int .i64 0] 28 (0, 0)) := by
      have := World.alloc_heap_new (w.alloc (.cells #[.int .i64 0, .slice none 0 0] 25)) (.cells #[.int .i64 0, .int .i64 0] 28)
      simpa using this
    have hb2 := hb1.alloc hb1.size (.cells #[.int .i64 0, .int .i64 0] 28)
    exact ⟨hbW0.trans (hb2.mono (by omega)), (hb2.block _ (by omega)).trans a0, (hb2.block _ (by omega)).trans a1⟩
  rcases hd with hd | ⟨hd, hd1, hd2⟩
  all_goals
    go_enter Tryd.func8, Tryd.ntmps8
    go_wp2_with fail
    refine (HWH.out _ (((Below.refl _ _).alloc (Nat.le_refl _) _).alloc (by simp) _)).mono ?_
    rintro e w1 ⟨rfl, hb1⟩
    obtain ⟨BF, hA, hA1⟩ := START.out w1 hb1
    have HBF := hidd BF
    have c0 : (w1.alloc (.cells #[.int .i64 0, .int .i64 0] 28)).cell? ⟨w.heap.size, 0, none⟩ = some (.int .i64 0) := (cellO hA).trans rfl
    have c1 : (w1.alloc (.cells #[.int .i64 0, .int .i64 0] 28)).cell? ⟨w.heap.size, 1, none⟩ = some (.slice none 0 0) := (cellO hA).trans rfl
    have d0 : (w1.alloc (.cells #[.int .i64 0, .int .i64 0] 28)).cell? ⟨w.heap.size + 1, 0, none⟩ = some (.int .i64 0) := (cellO hA1).trans rfl
    have d1 : (w1.alloc (.cells #[.int .i64 0, .int .i64 0] 28)).cell? ⟨w.heap.size + 1, 1, none⟩ = some (.int .i64 0) := (cellO hA1).trans rfl
    have f0 := looseO (q := 0) hA
    have f1 := looseO (q := 1) hA
    have g0 := looseO (q := 0) hA1
    have g1 := looseO (q := 1) hA1
    have hbx := box_new w1 #[.int .i64 0, .int .i64 0] 28
    have e0 : (w1.alloc (.cells #[.int .i64 0, .int .i64 0] 28)).cell? ⟨w1.heap.size, 0, none⟩ = some (.int .i64 0) := (cellO hbx).trans rfl
    clear BF hA hA1 hb1 hbx START HWH
    go_wp2_with fail
    refine bodyPost_ret (v := .tuple #[.agg #[.int .i64 0, .slice none 0 0], .agg #[.int .i64 3, .int .i64 0]]) (by simp [results, Tryd.results8, go_sem, c0, c1, d0, d1]) rfl ⟨?_, none, 0, 0, rfl, TM.nil 0 none _, Nat.zero_le _⟩
    exact (((HBF.out.setCell (p := ⟨w.heap.size, 0, none⟩) (Nat.le_refl _) _).setCell (p := ⟨w.heap.size, 1, none⟩) (Nat.le_refl _) _).setCell (p := ⟨w.heap.size + 1, 0, none⟩) (Nat.le_succ _) _).setCell (p := ⟨w.heap.size + 1, 1, none⟩) (Nat.le_succ _) _
end
end Go.Proofs.YthooljlikllnpaaDoor
