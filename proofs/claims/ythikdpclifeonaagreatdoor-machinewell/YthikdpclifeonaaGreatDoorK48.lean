/- Chapter 11: WHAT machine.Run TELLS of any image, for any steps. Chapter 11: the laws' closed fact. -/
import Derived.Test.YthikdpclifeonaaGreatDoorK47
namespace Go.Proofs.YthikdpclifeonaaGreatDoor.V
section
set_option linter.unusedVariables false
set_option linter.unusedSimpArgs false
open Go.RowKit
open Go.Proofs.YthikdpclifeonaaGreatDoor

/-- The machine at the start of a run. -/
def mc0 (ng st : Nat) : Mc := ⟨⟨[], [], [], []⟩, st, [], 0, 0, [], [], List.replicate ng none⟩
/-- WHAT Run TELLS. -/
def machineR (ng : Nat) (PP : List Pro) (ss : List Int) (steps : Int) : (Int × List (List UInt8)) × Int :=
  if wrongI ng PP ss = 0 then
    if steps < 0 ∨ 1000000 < steps then ((0, []), 3)
    else (((runM PP (ss.map Int.toNat) (mc0 ng steps.toNat)).1, (runM PP (ss.map Int.toNat) (mc0 ng steps.toNat)).2.st.out), 0)
  else ((0, []), wrongI ng PP ss)
theorem starts_ok {np : Int} : ∀ (ss : List Int) (l : Int), 0 ≤ l → startsW np l ss = 0 → ∀ s ∈ ss, 0 ≤ s ∧ s < np
  | [], _, _, _, s, hs => by simp at hs
  | t :: r, l, hl, h, s, hs => by
    rw [startsW] at h
    by_cases c : t < l ∨ np ≤ t
    · rw [if_pos c] at h; simp at h
    · rw [if_neg c] at h
      rcases List.mem_cons.1 hs with rfl | hs
      · omega
      · exact starts_ok r (t + 1) (by omega) h s hs
theorem wrongI_ok {ng : Nat} {PP : List Pro} {ss : List Int} (h : wrongI ng PP ss = 0) : ng ≤ 500 ∧ ss.length ≤ 40 ∧ PP.length ≤ 20000 ∧ (∀ s ∈ ss, 0 ≤ s ∧ s < (PP.length : Int)) ∧ wrongPs PP ss (numG ng) = 0 := by
  unfold wrongI at h
  by_cases a : 500 < ng ∨ 40 < ss.length ∨ 20000 < PP.length
  · rw [if_pos a] at h; simp at h
  rw [if_neg a] at h
  by_cases b : startsW PP.length 0 ss = 0
  · rw [if_pos b] at h
    exact ⟨by omega, by omega, by omega, starts_ok ss 0 (Int.le_refl _) b, h⟩
  · rw [if_neg b] at h; simp at h
theorem nats_of : ∀ (ss : List Int), (∀ s ∈ ss, 0 ≤ s) → (ss.map Int.toNat).map (fun s => ((s : Nat) : Int)) = ss
  | [], _ => rfl
  | s :: r, h => by
    have h0 := h s (by simp)
    have e : ((s.toNat : Nat) : Int) = s := by omega
    rw [List.map_cons, List.map_cons, nats_of r (fun x hx => h x (by simp [hx])), e]
theorem own_max {w : World} {base size n : Nat} {e : TypeId} {v : Value} {xs : List Value} (h : w.ownsRow base e size v n xs) : n ≤ maxLen := by
  rcases h.2 with ⟨_, rfl⟩ | ⟨g, cap, cur, _, _, _, hnc, hcm, _⟩
  · exact Nat.zero_le _
  · omega
theorem TM.of {B : Nat} {txs : List (List UInt8)} {tv : Value} {W : World} (h : W.ownsRow B 9 1 tv txs.length (txs.map strV)) : ∃ a c, tv = .slice a txs.length c ∧ TM txs a txs.length c W := by
  have h' := h
  obtain ⟨a, c, rfl, hc⟩ := own_slice h'
  refine ⟨a, c, rfl, rfl, hc, ?_⟩
  rcases h.2 with ⟨e, h0⟩ | ⟨g, cap, cur, e, _, hg, _⟩
  · exact Or.inl (List.eq_nil_of_length_eq_zero h0)
  · cases e
    refine Or.inr ⟨g, rfl, ⟨_, hg⟩, fun j s hj => ?_⟩
    have := h.cells (g := g) rfl j (strV s) (by rw [List.getElem?_map, hj]; rfl)
    have e : (⟨g, 0, none⟩ : Addr).add j = ⟨g, j, none⟩ := by
      unfold Addr.add
      split
      · rename_i h0; rw [h0]
      · simp
    rw [e] at this
    exact this
/-- The machine at the start, in memory. -/
theorem MI.begin {B rb T G : Nat} {PP : List Pro} {ss : List Int} {gl : In → Int} {K : Kn} {HF : Nat → List Int} {ng st pc pb po : Nat} {W : World} (im : Img PP ss gl K HF) (hT : T ≤ B) (tab : Tab T W) (hB : B ≤ rb) (hG : B ≤ G)
    (hpb : pb < B) (hpl : ∀ i p, PP[i]? = some p → ∃ ca cc, W.cell? ⟨pb, po + i * 2, none⟩ = some (.int .i64 p.args) ∧ W.cell? ⟨pb, po + i * 2 + 1, none⟩ = some (.slice ca p.code.length cc) ∧ p.code.length ≤ cc ∧ CL B W ca p.code)
    (hg : W.heap[G]? = some (.cells (List.replicate ng Value.nilIface).toArray 155 (0, 0)))
    (hr : W.heap[rb]? = some (.cells #[.slice none 0 0, .slice none 0 0, .slice none 0 0, .int .i64 0, .pointer none, .slice none 0 0, .slice (some ⟨pb, po, none⟩) PP.length pc, .slice (some ⟨G, 0, none⟩) ng ng, .int .i64 (st : Int)] 65 (0, 0))) :
    MI B rb T PP G ⟨.slice none 0 0, .slice none 0 0, .int .i64 0, .pointer none, .slice none 0 0, .slice (some ⟨pb, po, none⟩) PP.length pc, .slice (some ⟨G, 0, none⟩) ng ng, .int .i64 (st : Int), pb, po⟩ ⟨[], [], []⟩ (mc0 ng st) W := by
  refine ⟨⟨⟨.slice none 0 0, hr, World.ownsRow_nil _ _ _ _⟩, hB, trivial, rfl, rfl, rfl, List.nodup_nil, List.nodup_nil, List.nodup_nil, fun k hk => by simp at hk, fun k hk => by simp at hk, fun k hk => by simp at hk, fun i k p h1 h2 => by simp at h2, fun i k q h1 h2 => by simp at h2, fun r k vs h1 h2 => by simp at h2, trivial⟩, tab, hT, ⟨hpb, fun i P hP => ?_⟩, ⟨pc, rfl⟩, ⟨World.ownsRow_nil _ _ _ _, fun x hx => by simp [mc0] at hx, fun g hg => (by cases hg)⟩, ⟨[], World.ownsRow_nil _ _ _ _, .nil⟩, ⟨?_, fun v hv => ?_, by simp, hG⟩, ⟨ng, by simp [mc0]⟩, fun g hg => (by cases hg), rfl⟩
  · obtain ⟨ca, cc, h1, h2, h3, h4⟩ := hpl i P hP
    refine ⟨_, h1, h2, P, ?_⟩
    have hl := (im.pro i P hP).1.1
    rcases h4 with h4 | ⟨b, o, rfl, h5, h6⟩
    · rw [h4] at hl; simp at hl
    · exact ⟨b, o, cc, hP, rfl, h5, h3, h6⟩
  · rw [hg]
    simp [mc0, gV, Value.nilIface]
  · simp [mc0, List.mem_replicate] at hv
set_option maxRecDepth 100000 in
set_option maxHeartbeats 3200000 in
/-- A run of no starts. -/
theorem run17_none (B rb : Nat) (sa : Option Addr) (sc : Nat) (gb : Rc) (txs : List (List UInt8)) (w : World) (h : RT B rb txs gb w) (hB : B ≤ w.heap.size) :
    Calls Tryz.prog 17 #[.pointer (some ⟨rb, 0, none⟩), .slice sa 0 sc] w fun e w' => e = .returned (.int .i64 1) ∧ Below B w w' ∧ ∃ gb', RT B rb txs gb' w' := by
  have hmf : ∀ (fn : Fn) (first cap : Array Value) (w : World), (Instr.makeFunc fn first cap).run Tryz.prog w = .ok (.func fn first cap) w := fun _ _ _ _ => rfl
  have hbx := World.alloc_heap_new w (.cells #[.int .i64 0] 3)
  have g0 : (w.alloc (.cells #[.int .i64 0] 3)).cell? ⟨w.heap.size, 0, none⟩ = some (.int .i64 0) := (cellO hbx).trans rfl
  have y0 : (w.alloc (.cells #[.int .i64 0] 3)).frozen? ⟨w.heap.size, 0, none⟩ = false := looseO hbx
  have HT : Hid (Below B w (w.alloc (.cells #[.int .i64 1] 3)) ∧ ∃ gb', RT B rb txs gb' (w.alloc (.cells #[.int .i64 1] 3))) := ⟨(Below.refl _ _).alloc hB _, gb, h.stay3 ((Below.refl _ _).alloc (Nat.le_refl _) _)⟩
  clear h hbx
  go_enter_defers Tryz.func17, Tryz.ntmps17
  go_wp2_with fail
  refine wp_loop_rounds 1 ?_
  rw [rounds_succ]
  go_wp2_with fail
  refine leaves_cons (f := 30) (args := #[.pointer (some ⟨w.heap.size, 0, none⟩)]) (by simp) (by simp [go_sem]) ?_
  refine (catch_idle _ _).mono ?_
  rintro e u' w4 ⟨rfl, rfl, rfl⟩
  have ht := HT.out
  simp [Leaves, settle, results, Tryz.results17, go_sem, g0, ht]
/-- WHAT Run TELLS of any image. -/
theorem Run7_any (T ng : Nat) (PP : List Pro) (ss : List Int) (ga pa ba : Option Addr) (gc pc bc : Nat) (steps : Int) (w : World) (hl : PL w.heap.size w pa PP) (hpc : PP.length ≤ pc) (hbs : NL w.heap.size w ba ss) (hbc : ss.length ≤ bc) (htab : TabS w) (tab : Tab T w) (hT : T ≤ w.heap.size) :
    Calls Tryz.prog 7 #[.agg #[.slice ga ng gc, .slice pa PP.length pc, .slice ba ss.length bc], .int .i64 steps] w (ToldM w (machineR ng PP ss steps)) := by
  have HW : ∀ W, Below w.heap.size w W → Calls Tryz.prog 9 #[.agg #[.slice ga ng gc, .slice pa PP.length pc, .slice ba ss.length bc]] W fun e w' => e = .returned (.int .i64 (wrongI ng PP ss)) ∧ Below W.heap.size W w' := fun W hb => Wrong9_any ng PP ss ga pa ba gc pc bc W ((hl.below hb).mono hb.size) hpc (by
    rcases hbs with h | ⟨b, o, h1, h2, h3⟩
    · exact Or.inl h
    · exact Or.inr ⟨b, o, h1, Nat.lt_of_lt_of_le h2 hb.size, fun i v hi => (hb.cell (p := ⟨b, o + i, none⟩) h2).trans (h3 i v hi)⟩) hbc (htab.below hb)
  unfold machineR
  by_cases hw : wrongI ng PP ss = 0
  · rw [if_pos hw]
    rw [hw] at HW
    obtain ⟨k1, k2, k3, k4, k5⟩ := wrongI_ok hw
    by_cases hs : steps < 0 ∨ 1000000 < steps
    · rw [if_pos hs]
      exact Run7_range ga pa ba ng gc PP.length pc ss.length bc steps hs w HW
    · rw [if_neg hs]
      have est : steps = ((steps.toNat : Nat) : Int) := by omega
      obtain ⟨K, hK⟩ := image_is k5
      obtain ⟨HF, im⟩ := img_of hK
      refine Run7_go ga pa ba ng gc PP.length pc ss.length bc _ steps (by omega) (by omega) k1 _ w HW ?_
      intro B rb G W hb hB hrb hG hne hlt hg hr
      rw [est] at hr
      have hBs : B ≤ W.heap.size := by omega
      have fin : ∀ (f : Int × Mc), (∀ e w', ToldRun B rb f W e w' → e = .returned (.int .i64 f.1) ∧ Below B W w' ∧ ∃ a n c, w'.cell? ⟨rb, 0, none⟩ = some (.slice a n c) ∧ TM f.2.st.out a n c w' ∧ f.2.st.out.length ≤ maxLen) := by
        rintro f e w' ⟨h1, h2, gb', tv, hRN, hO⟩
        have hlen := own_max hO
        obtain ⟨a, c, rfl, htm⟩ := TM.of hO
        exact ⟨h1, h2, a, _, c, (cellO hRN).trans rfl, htm, hlen⟩
      rcases hbs with h0 | ⟨sb, so, rfl, hsb, hst⟩
      · subst h0
        have hRT : RT B rb [] ⟨.slice none 0 0, .slice none 0 0, .int .i64 0, .pointer none, .slice none 0 0, .slice pa PP.length pc, .slice (some ⟨G, 0, none⟩) ng ng, .int .i64 (steps.toNat : Int), 0, 0⟩ W := ⟨.slice none 0 0, hr, World.ownsRow_nil _ _ _ _⟩
        refine (run17_none B rb ba bc _ [] W hRT hBs).mono ?_
        rintro e w' ⟨h1, h2, gb', h3⟩
        exact fin (runM PP [] (mc0 ng steps.toNat)) e w' ⟨h1, h2, gb', h3⟩
      · have en := nats_of ss (fun s hs => (k4 s hs).1)
        by_cases h0 : ss = []
        · subst h0
          have hRT : RT B rb [] ⟨.slice none 0 0, .slice none 0 0, .int .i64 0, .pointer none, .slice none 0 0, .slice pa PP.length pc, .slice (some ⟨G, 0, none⟩) ng ng, .int .i64 (steps.toNat : Int), 0, 0⟩ W := ⟨.slice none 0 0, hr, World.ownsRow_nil _ _ _ _⟩
          refine (run17_none B rb _ bc _ [] W hRT hBs).mono ?_
          rintro e w' ⟨h1, h2, gb', h3⟩
          exact fin (runM PP [] (mc0 ng steps.toNat)) e w' ⟨h1, h2, gb', h3⟩
        have hPP : PP ≠ [] := by
          rintro rfl
          obtain ⟨s, r, rfl⟩ := List.exists_cons_of_ne_nil h0
          have := k4 s (by simp)
          simp at this
          omega
        rcases (hl.below hb).mono (show w.heap.size ≤ B by omega) with h1 | ⟨pb, po, rfl, hpb, hpl⟩
        · exact absurd h1 hPP
        have hMI := MI.begin (T := T) (st := steps.toNat) im (by omega) (tab.below (hb.mono hT)) hrb hG hpb hpl hg hr
        have hI : IdM B rb T PP G K ng (runM PP (ss.map Int.toNat) (mc0 ng steps.toNat)) (ss.map Int.toNat) W := ⟨⟨_, _, _, hMI, rfl, rfl, fun q hq => by simp [mc0] at hq, by simp [mc0], by show steps.toNat ≤ 1000000; omega, rfl⟩⟩
        have := runM_any (ss.map Int.toNat) sb so bc W (by rw [en]; exact im) (fun x hx => by unfold numG at hx; by_cases z : 0 ≤ x.a ∧ x.a < (ng : Int); exact z; rw [if_neg z] at hx; simp at hx) k3 k1 hI hBs (by omega) (fun j s hj => by
          have hw' := hb.cell (p := ⟨sb, so + j, none⟩) hsb
          obtain ⟨q, hq, rfl⟩ : ∃ q, ss[j]? = some q ∧ q.toNat = s := by
            rw [List.getElem?_map] at hj
            cases hq : ss[j]? with
            | none => rw [hq] at hj; cases hj
            | some q => rw [hq] at hj; simp at hj; exact ⟨q, rfl, hj⟩
          have h1 := hst j q hq
          have h2 := (k4 q (List.mem_of_getElem? hq)).1
          rw [hw', h1]
          have : ((q.toNat : Nat) : Int) = q := by omega
          rw [this]) (by simpa using k2)
        rw [List.length_map] at this
        exact this.mono (fin _)
  · rw [if_neg hw]
    exact Run7_wrong ga pa ba ng gc PP.length pc ss.length bc steps (wrongI ng PP ss) hw w HW
end
section
set_option linter.unusedVariables false
set_option linter.unusedSimpArgs false
open Go.RowKit
open Go.Proofs.YthikdpclifeonaaGreatDoor

def codeA : List In := [⟨6, 0, 0, ⟨#[]⟩, outF, emD⟩, insN 1 5, insA 8 1, insO 14, insO 15]
def insV (x : In) : List Value := [.int .i64 x.op, .int .i64 x.a, .int .i64 x.n, .string x.lib, .string x.own, .int .i64 x.quote.kind, .int .i64 x.quote.n, .string x.quote.name, .int .i64 x.quote.stamp, .int .i64 x.quote.lib, .slice none 0 0]
def codeV : List Value := (codeA.map insV).flatten
theorem alive_code {V : World} {B c : Nat} {cs : Array Value} (hc : V.heap[c]? = some (.cells cs 84 (0, 0))) (hcs : cs.toList = codeV) (hB : c < B) : CL B V (some ⟨c, 0, none⟩) codeA := by
  refine Or.inr ⟨c, 0, rfl, hB, fun i x hx => ⟨none, 0, ?_⟩⟩
  have g : ∀ q, V.cell? ⟨c, q, none⟩ = codeV[q]? := fun q => by
    rw [cellO hc, ← hcs]
    simp
  match i, hx with
  | 0, hx => simp [codeA] at hx; subst hx; exact ⟨g _, g _, g _, g _, g _, g _, g _, g _, g _, g _, g _, by decide, by decide, by decide, Nat.le_refl _, 0, rfl⟩
  | 1, hx => simp [codeA] at hx; subst hx; exact ⟨g _, g _, g _, g _, g _, g _, g _, g _, g _, g _, g _, by decide, by decide, by decide, Nat.le_refl _, 0, rfl⟩
  | 2, hx => simp [codeA] at hx; subst hx; exact ⟨g _, g _, g _, g _, g _, g _, g _, g _, g _, g _, g _, by decide, by decide, by decide, Nat.le_refl _, 0, rfl⟩
  | 3, hx => simp [codeA] at hx; subst hx; exact ⟨g _, g _, g _, g _, g _, g _, g _, g _, g _, g _, g _, by decide, by decide, by decide, Nat.le_refl _, 0, rfl⟩
  | 4, hx => simp [codeA] at hx; subst hx; exact ⟨g _, g _, g _, g _, g _, g _, g _, g _, g _, g _, g _, by decide, by decide, by decide, Nat.le_refl _, 0, rfl⟩
  | n + 5, hx => simp [codeA] at hx
theorem itoa5 : Lib.itoa 5 = [53] := by
  unfold Lib.itoa
  simp
  unfold Lib.decDigits
  simp
theorem alive_5 : machineR 0 [⟨0, codeA⟩] [0] 5 = ((1, [Lib.itoa 5]), 0) := by kernel_rfl
theorem alive_4 : machineR 0 [⟨0, codeA⟩] [0] 4 = ((2, [Lib.itoa 5]), 0) := by kernel_rfl
/-- The closed fact's image, laid. -/
def aliveW (w : World) (A : Array Value) : World := (((w.alloc (.cells #[.int .i64 0] 3)).alloc (.cells A 84)).alloc (.cells #[.int .i64 0, .slice (some ⟨w.heap.size + 1, 0, none⟩) 5 5] 86)).alloc (.cells #[.slice none 0 0, .slice (some ⟨w.heap.size + 1 + 1, 0, none⟩) 1 1, .slice (some ⟨w.heap.size, 0, none⟩) 1 1] 26)
theorem aliveW_at (w : World) (A : Array Value) : Below w.heap.size w (aliveW w A) ∧ (aliveW w A).heap.size = w.heap.size + 4 ∧ (aliveW w A).heap[w.heap.size]? = some (.cells #[.int .i64 0] 3 (0, 0)) ∧ (aliveW w A).heap[w.heap.size + 1]? = some (.cells A 84 (0, 0)) ∧ (aliveW w A).heap[w.heap.size + 1 + 1]? = some (.cells #[.int .i64 0, .slice (some ⟨w.heap.size + 1, 0, none⟩) 5 5] 86 (0, 0)) ∧ (aliveW w A).heap[w.heap.size + 1 + 1 + 1]? = some (.cells #[.slice none 0 0, .slice (some ⟨w.heap.size + 1 + 1, 0, none⟩) 1 1, .slice (some ⟨w.heap.size, 0, none⟩) 1 1] 26 (0, 0)) := by
  unfold aliveW
  refine ⟨((((Below.refl _ _).alloc (Nat.le_refl _) _).alloc (by simp) _).alloc (by simp <;> omega) _).alloc (by simp <;> omega) _, by simp, ?_, ?_, ?_, ?_⟩
  · rw [Below.heap_alloc _ _ _ (by simp <;> omega), Below.heap_alloc _ _ _ (by simp <;> omega), Below.heap_alloc _ _ _ (by simp)]; exact World.alloc_heap_new w _
  · rw [Below.heap_alloc _ _ _ (by simp <;> omega), Below.heap_alloc _ _ _ (by simp)]
    have := World.alloc_heap_new (w.alloc (.cells #[.int .i64 0] 3)) (.cells A 84)
    simpa using this
  · rw [Below.heap_alloc _ _ _ (by simp)]
    have := World.alloc_heap_new ((w.alloc (.cells #[.int .i64 0] 3)).alloc (.cells A 84)) (.cells #[.int .i64 0, .slice (some ⟨w.heap.size + 1, 0, none⟩) 5 5] 86)
    simpa using this
  · have := World.alloc_heap_new (((w.alloc (.cells #[.int .i64 0] 3)).alloc (.cells A 84)).alloc (.cells #[.int .i64 0, .slice (some ⟨w.heap.size + 1, 0, none⟩) 5 5] 86)) (.cells #[.slice none 0 0, .slice (some ⟨w.heap.size + 1 + 1, 0, none⟩) 1 1, .slice (some ⟨w.heap.size, 0, none⟩) 1 1] 26)
    simpa using this
theorem alive_call (T : Nat) (w : World) (A : Array Value) (hA : A.toList = codeV) (htab : TabS w) (tab : Tab T w) (hT : T ≤ w.heap.size) (st : Int) (W : World) (hb : Below (w.heap.size + 4) (aliveW w A) W) : Calls Tryz.prog 7 #[.agg #[.slice none 0 0, .slice (some ⟨w.heap.size + 1 + 1, 0, none⟩) 1 1, .slice (some ⟨w.heap.size, 0, none⟩) 1 1], .int .i64 st] W (ToldM W (machineR 0 [⟨0, codeA⟩] [0] st)) := by
  obtain ⟨g0, g1, g2, g3, g4, _⟩ := aliveW_at w A
  have hsz := hb.size
  have hb0 : Below w.heap.size w W := g0.trans (hb.mono (by omega))
  have k2 := (hb.block w.heap.size (by omega)).trans g2
  have k3 := (hb.block (w.heap.size + 1) (by omega)).trans g3
  have k4 := (hb.block (w.heap.size + 1 + 1) (by omega)).trans g4
  refine Run7_any T 0 [⟨0, codeA⟩] [0] none (some ⟨w.heap.size + 1 + 1, 0, none⟩) (some ⟨w.heap.size, 0, none⟩) 0 1 1 st W ?_ (by decide) ?_ (by decide) (htab.below hb0) (tab.below (hb0.mono hT)) (Nat.le_trans hT hb0.size)
  · refine Or.inr ⟨_, 0, rfl, by omega, fun i p hp => ?_⟩
    match i, hp with
    | 0, hp =>
      simp at hp
      subst hp
      exact ⟨some ⟨w.heap.size + 1, 0, none⟩, 5, (cellO k4).trans rfl, (cellO k4).trans rfl, by decide, alive_code k3 hA (by omega)⟩
    | n + 1, hp => simp at hp
  · refine Or.inr ⟨_, 0, rfl, by omega, fun i v hv => ?_⟩
    match i, hv with
    | 0, hv =>
      simp at hv
      subst hv
      exact (cellO k2).trans rfl
    | n + 1, hv => simp at hv
theorem alive_first (T : Nat) (w : World) (A : Array Value) (hA : A.toList = codeV) (htab : TabS w) (tab : Tab T w) (hT : T ≤ w.heap.size) :
    Calls Tryz.prog 7 #[.agg #[.slice none 0 0, .slice (some ⟨w.heap.size + 1 + 1, 0, none⟩) 1 1, .slice (some ⟨w.heap.size, 0, none⟩) 1 1], .int .i64 5] (aliveW w A) fun e w2 => Below w.heap.size w w2 ∧ (∃ G c, 1 ≤ c ∧ e = .returned (.tuple #[.agg #[.int .i64 1, .slice (some ⟨G, 0, none⟩) 1 c], .int .i64 0]) ∧ w2.cell? ⟨G, 0, none⟩ = some (.string ⟨#[53]⟩) ∧ G < w2.heap.size) ∧ w2.heap[w.heap.size + 1 + 1 + 1]? = some (.cells #[.slice none 0 0, .slice (some ⟨w.heap.size + 1 + 1, 0, none⟩) 1 1, .slice (some ⟨w.heap.size, 0, none⟩) 1 1] 26 (0, 0)) ∧ w.heap.size + 1 + 1 + 1 < w2.heap.size ∧
      ∀ W, Below w2.heap.size w2 W → Calls Tryz.prog 7 #[.agg #[.slice none 0 0, .slice (some ⟨w.heap.size + 1 + 1, 0, none⟩) 1 1, .slice (some ⟨w.heap.size, 0, none⟩) 1 1], .int .i64 4] W fun e w3 => Below W.heap.size W w3 ∧ ∃ a n c, e = .returned (.tuple #[.agg #[.int .i64 2, .slice a n c], .int .i64 0]) := by
  have h := aliveW_at w A
  have h5 := alive_call T w A hA htab tab hT 5 _ (Below.refl _ _)
  rw [alive_5, itoa5] at h5
  refine h5.mono ?_
  rintro e w2 ⟨hb, a, n, c, rfl, ⟨h1, h2, h3⟩, _⟩
  rw [h.2.1] at hb
  refine ⟨h.1.trans (hb.mono (by omega)), ?_, (hb.block _ (by omega)).trans h.2.2.2.2.2, by have := hb.size; have := h.2.1; omega, fun W hW => ?_⟩
  · rcases h3 with h3 | ⟨G, rfl, _, h4⟩
    · simp at h3
    · have hc := h4 0 [53] rfl
      simp at h1
      subst h1
      exact ⟨G, c, h2, rfl, hc, cell_ltX hc⟩
  · have h4 := alive_call T w A hA htab tab hT 4 W (hb.trans (hW.mono (by have := hb.size; have := h.2.1; omega)))
    rw [alive_4] at h4
    refine h4.mono ?_
    rintro e w3 ⟨hb, a, n, c, rfl, _, _⟩
    exact ⟨hb, a, n, c, rfl⟩
set_option maxRecDepth 100000 in
set_option maxHeartbeats 3200000 in
theorem alive_any (T : Nat) (w : World) (htab : TabS w) (tab : Tab T w) (hT : T ≤ w.heap.size) : Calls Tryz.prog 12 #[] w fun e w' => e = .returned (.bool true) ∧ Below w.heap.size w w' := by
  have H1 : Hid (∀ A : Array Value, A.toList = codeV → _) := fun A hA => alive_first T w A hA htab tab hT
  clear htab tab hT
  go_enter Tryz.func12, Tryz.ntmps12
  go_wp2_with fail
  refine (H1.out _ rfl).mono ?_
  rintro e w2 ⟨hb2, ⟨G, c, hc, rfl, hg, hG⟩, hi, hil, h4⟩
  have n2 := World.alloc_heap_new w2 (.cells #[.int .i64 1, .slice (some ⟨G, 0, none⟩) 1 c] 29)
  have b2 := (Below.refl w2.heap.size w2).alloc (Nat.le_refl _) (.cells #[.int .i64 1, .slice (some ⟨G, 0, none⟩) 1 c] 29)
  have H2 := hidd (h4 _ b2)
  have F2 : Hid (Below w.heap.size w (w2.alloc (.cells #[.int .i64 1, .slice (some ⟨G, 0, none⟩) 1 c] 29)) ∧ (w2.alloc (.cells #[.int .i64 1, .slice (some ⟨G, 0, none⟩) 1 c] 29)).heap[w2.heap.size]? = some (.cells #[.int .i64 1, .slice (some ⟨G, 0, none⟩) 1 c] 29 (0, 0)) ∧ (w2.alloc (.cells #[.int .i64 1, .slice (some ⟨G, 0, none⟩) 1 c] 29)).cell? ⟨G, 0, none⟩ = some (.string ⟨#[53]⟩)) := ⟨hb2.trans (b2.mono hb2.size), n2, (b2.cell (p := ⟨G, 0, none⟩) hG).trans hg⟩
  have i0 : (w2.alloc (.cells #[.int .i64 1, .slice (some ⟨G, 0, none⟩) 1 c] 29)).cell? ⟨w.heap.size + 1 + 1 + 1, 0, none⟩ = some (.slice none 0 0) := (b2.cell (p := ⟨w.heap.size + 1 + 1 + 1, 0, none⟩) hil).trans ((cellO hi).trans rfl)
  have i1 : (w2.alloc (.cells #[.int .i64 1, .slice (some ⟨G, 0, none⟩) 1 c] 29)).cell? ⟨w.heap.size + 1 + 1 + 1, 1, none⟩ = some (.slice (some ⟨w.heap.size + 1 + 1, 0, none⟩) 1 1) := (b2.cell (p := ⟨w.heap.size + 1 + 1 + 1, 1, none⟩) hil).trans ((cellO hi).trans rfl)
  have i2 : (w2.alloc (.cells #[.int .i64 1, .slice (some ⟨G, 0, none⟩) 1 c] 29)).cell? ⟨w.heap.size + 1 + 1 + 1, 2, none⟩ = some (.slice (some ⟨w.heap.size, 0, none⟩) 1 1) := (b2.cell (p := ⟨w.heap.size + 1 + 1 + 1, 2, none⟩) hil).trans ((cellO hi).trans rfl)
  clear hb2 hg hG hi hil h4 n2 b2 H1
  go_upto_region 3 with fail
  generalize (w2.alloc (.cells #[.int .i64 1, .slice (some ⟨G, 0, none⟩) 1 c] 29)) = W3 at F2 i0 i1 i2 H2 ⊢
  go_wp2_with fail
  refine H2.out.mono ?_
  rintro e w4 ⟨hb4, a, n, c4, rfl⟩
  have n4 := World.alloc_heap_new w4 (.cells #[.int .i64 2, .slice a n c4] 29)
  have b4 := (Below.refl w4.heap.size w4).alloc (Nat.le_refl _) (.cells #[.int .i64 2, .slice a n c4] 29)
  have hb5 : Below W3.heap.size W3 (w4.alloc (.cells #[.int .i64 2, .slice a n c4] 29)) := hb4.trans (b4.mono hb4.size)
  have HBE : Hid (Below w.heap.size w (w4.alloc (.cells #[.int .i64 2, .slice a n c4] 29))) := F2.out.1.trans (hb5.mono F2.out.1.size)
  have m2 := (hb5.block _ (Array.getElem?_eq_some_iff.1 F2.out.2.1).1).trans F2.out.2.1
  have y0 : (w4.alloc (.cells #[.int .i64 2, .slice a n c4] 29)).cell? ⟨w2.heap.size, 0, none⟩ = some (.int .i64 1) := (cellO m2).trans rfl
  have y1 : (w4.alloc (.cells #[.int .i64 2, .slice a n c4] 29)).cell? ⟨w2.heap.size, 1, none⟩ = some (.slice (some ⟨G, 0, none⟩) 1 c) := (cellO m2).trans rfl
  have y2 : (w4.alloc (.cells #[.int .i64 2, .slice a n c4] 29)).cell? ⟨G, 0, none⟩ = some (.string ⟨#[53]⟩) := (hb5.cell (p := ⟨G, 0, none⟩) (cell_ltX F2.out.2.2)).trans F2.out.2.2
  have y3 : (w4.alloc (.cells #[.int .i64 2, .slice a n c4] 29)).cell? ⟨w4.heap.size, 0, none⟩ = some (.int .i64 2) := (cellO n4).trans rfl
  clear hb4 n4 b4 hb5 F2 m2 H2
  go_upto_region 4 with fail
  generalize (w4.alloc (.cells #[.int .i64 2, .slice a n c4] 29)) = W5 at HBE y0 y1 y2 y3 ⊢
  go_wp2_with fail
  go_ret
  exact ⟨rfl, HBE.out⟩
end
end Go.Proofs.YthikdpclifeonaaGreatDoor.V
