/- Chapter 11: plain: who changes what; texts that are not empty Chapter 11: any value is written Chapter 11: a value is put out -/
import Derived.Test.YthikdpclifeonaaGreatDoorK28
import Derived.Test.YthikdpclifeonaaGreatDoorK32
namespace Go.Proofs.YthikdpclifeonaaGreatDoor.V
section
set_option linter.unusedVariables false
set_option linter.unusedSimpArgs false
open Go.RowKit
open Go.Proofs.YthikdpclifeonaaGreatDoor

/-- Rows, procedures and calls as they were. -/
def Qt (σ σ' : St) : Prop := σ'.rows = σ.rows ∧ σ'.procs = σ.procs
theorem Qt.refl (σ : St) : Qt σ σ := ⟨rfl, rfl⟩
theorem Qt.trans {a b c : St} (h : Qt a b) (k : Qt b c) : Qt a c := ⟨k.1.trans h.1, k.2.trans h.2⟩
theorem listed_qt (ds : List Dat) (σ : St) : Qt σ (listedF ds σ).2 := by
  cases ds <;> exact ⟨rfl, rfl⟩
theorem quoted_qt (d : Dat) (σ : St) : Qt σ (quotedF d σ).2 := by
  unfold quotedF
  split
  · exact ⟨rfl, rfl⟩
  split
  · exact ⟨rfl, rfl⟩
  split
  · exact ⟨rfl, rfl⟩
  exact listed_qt _ _
theorem values_qt (i : Nat) (σ : St) : Qt σ (valuesF i σ).2 := by
  unfold valuesF
  cases h : σ.pairs[i]? with
  | none => exact ⟨rfl, rfl⟩
  | some p =>
    cases p with
    | made a b => exact ⟨rfl, rfl⟩
    | unmade d r =>
      have q := (quoted_qt d σ).trans (listed_qt r (quotedF d σ).2)
      exact ⟨q.1, q.2⟩
theorem show_qt : ∀ (f : Nat), (∀ v w σ, Qt σ (showF f v w σ).2) ∧ (∀ v w σ, Qt σ (tailF f v w σ).2)
  | 0 => ⟨fun _ _ _ => by simp [showF, Qt], fun _ _ _ => by simp [tailF, Qt]⟩
  | f + 1 => by
    obtain ⟨ih1, ih2⟩ := show_qt f
    constructor
    · intro v w σ
      rw [showF]
      split
      · exact ⟨rfl, rfl⟩
      cases v with
      | num n => exact ⟨rfl, rfl⟩
      | tru b => exact ⟨rfl, rfl⟩
      | sym s => exact ⟨rfl, rfl⟩
      | nil => exact ⟨rfl, rfl⟩
      | prim s => exact ⟨rfl, rfl⟩
      | proc i => exact ⟨rfl, rfl⟩
      | pair i =>
        have hv := values_qt i σ
        have h1 := ih1 (valuesF i σ).1.1 (Wrt.put { w with nodes := w.nodes + 1 } [40]) (valuesF i σ).2
        simp only
        cases h : showF f (valuesF i σ).1.1 (Wrt.put { w with nodes := w.nodes + 1 } [40]) (valuesF i σ).2 with
        | mk r s =>
          rw [h] at h1
          cases r with
          | bad h => exact hv.trans h1
          | ok w2 => exact (hv.trans h1).trans (ih2 (valuesF i σ).1.2 w2 s)
    · intro v w σ
      cases v with
      | pair i =>
        have hv := values_qt i σ
        have h1 := ih1 (valuesF i σ).1.1 (Wrt.put w [32]) (valuesF i σ).2
        simp only [tailF]
        cases h : showF f (valuesF i σ).1.1 (Wrt.put w [32]) (valuesF i σ).2 with
        | mk r s =>
          rw [h] at h1
          cases r with
          | bad h => exact hv.trans h1
          | ok w2 => exact (hv.trans h1).trans (ih2 (valuesF i σ).1.2 w2 s)
      | nil => simp [tailF, Qt]
      | num n =>
        have h1 := ih1 (Val.num n) (Wrt.put w [32, 46, 32]) σ
        simp only [tailF]
        cases h : showF f (Val.num n) (Wrt.put w [32, 46, 32]) σ with
        | mk r s =>
          rw [h] at h1
          cases r <;> exact h1
      | tru n =>
        have h1 := ih1 (Val.tru n) (Wrt.put w [32, 46, 32]) σ
        simp only [tailF]
        cases h : showF f (Val.tru n) (Wrt.put w [32, 46, 32]) σ with
        | mk r s =>
          rw [h] at h1
          cases r <;> exact h1
      | sym n =>
        have h1 := ih1 (Val.sym n) (Wrt.put w [32, 46, 32]) σ
        simp only [tailF]
        cases h : showF f (Val.sym n) (Wrt.put w [32, 46, 32]) σ with
        | mk r s =>
          rw [h] at h1
          cases r <;> exact h1
      | prim n =>
        have h1 := ih1 (Val.prim n) (Wrt.put w [32, 46, 32]) σ
        simp only [tailF]
        cases h : showF f (Val.prim n) (Wrt.put w [32, 46, 32]) σ with
        | mk r s =>
          rw [h] at h1
          cases r <;> exact h1
      | proc n =>
        have h1 := ih1 (Val.proc n) (Wrt.put w [32, 46, 32]) σ
        simp only [tailF]
        cases h : showF f (Val.proc n) (Wrt.put w [32, 46, 32]) σ with
        | mk r s =>
          rw [h] at h1
          cases r <;> exact h1
theorem put_qt (v : Val) (σ : St) : Qt σ (putF v σ).2 := by
  unfold putF
  split
  · have h1 := (show_qt 1000).1 v ⟨[], 0⟩ σ
    cases h : showF 1000 v ⟨[], 0⟩ σ with
    | mk r s =>
      rw [h] at h1
      cases r with
      | bad h => exact h1
      | ok w => exact h1
  · exact Qt.refl σ
theorem one_qt (p : ByteArray) (v : Val) (σ : St) : Qt σ (oneF p v σ).2 := by
  unfold oneF
  split
  · cases v <;> first | exact Qt.refl σ | exact values_qt _ σ
  split
  · cases v <;> first | exact Qt.refl σ | exact values_qt _ σ
  split
  · exact Qt.refl σ
  split
  · exact Qt.refl σ
  exact Qt.refl σ
theorem two_qt (p : ByteArray) (a b : Val) (σ : St) : Qt σ (twoF p a b σ).2 := by
  unfold twoF
  split
  · exact ⟨rfl, rfl⟩
  split
  · exact Qt.refl σ
  cases a <;> first | exact Qt.refl σ | (cases b <;> exact Qt.refl σ)
theorem prim_qt (p : ByteArray) (vs : List Val) (σ : St) : Qt σ (primF p vs σ).2 := by
  unfold primF
  split
  · match vs with
    | [] => exact Qt.refl σ
    | [a] =>
      simp only
      split
      · exact put_qt a σ
      · exact one_qt p a σ
    | [a, b] => exact two_qt p a b σ
    | _ :: _ :: _ :: _ => exact Qt.refl σ
  · exact Qt.refl σ
/-- What is written is no less than what was there. -/
theorem show_grow : ∀ (f : Nat), (∀ v w σ x s, showF f v w σ = (.ok x, s) → w.txt.length ≤ x.txt.length) ∧ (∀ v w σ x s, tailF f v w σ = (.ok x, s) → w.txt.length ≤ x.txt.length)
  | 0 => ⟨fun _ _ _ _ _ e => by (rw [showF] at e; cases e), fun _ _ _ _ _ e => by (rw [tailF] at e; cases e)⟩
  | f + 1 => by
    obtain ⟨ih1, ih2⟩ := show_grow f
    constructor
    · intro v w σ x s e
      rw [showF] at e
      by_cases hn : 300 < w.nodes + 1
      · rw [if_pos hn] at e
        cases e
      rw [if_neg hn] at e
      cases v with
      | num n => cases e; simp [Wrt.put]
      | tru b => cases e; simp [Wrt.put]
      | sym s => cases e; simp [Wrt.put]
      | nil => cases e; simp [Wrt.put]
      | prim s => cases e; simp [Wrt.put]
      | proc i => cases e; simp [Wrt.put]
      | pair i =>
        simp only at e
        cases h : showF f (valuesF i σ).1.1 (Wrt.put { w with nodes := w.nodes + 1 } [40]) (valuesF i σ).2 with
        | mk r t =>
          rw [h] at e
          cases r with
          | bad q => cases e
          | ok w2 =>
            have h1 := ih1 _ _ _ _ _ h
            have h2 := ih2 _ _ _ _ _ e
            simp [Wrt.put] at h1
            omega
    · intro v w σ x s e
      cases v with
      | pair i =>
        simp only [tailF] at e
        cases h : showF f (valuesF i σ).1.1 (Wrt.put w [32]) (valuesF i σ).2 with
        | mk r t =>
          rw [h] at e
          cases r with
          | bad q => cases e
          | ok w2 =>
            have h1 := ih1 _ _ _ _ _ h
            have h2 := ih2 _ _ _ _ _ e
            simp [Wrt.put] at h1
            omega
      | nil => simp only [tailF] at e; cases e; simp [Wrt.put]
      | num n =>
        simp only [tailF] at e
        cases h : showF f (Val.num n) (Wrt.put w [32, 46, 32]) σ with
        | mk r t =>
          rw [h] at e
          cases r with
          | bad q => cases e
          | ok w2 =>
            have h1 := ih1 _ _ _ _ _ h
            cases e
            simp [Wrt.put] at h1 ⊢
            omega
      | tru n =>
        simp only [tailF] at e
        cases h : showF f (Val.tru n) (Wrt.put w [32, 46, 32]) σ with
        | mk r t =>
          rw [h] at e
          cases r with
          | bad q => cases e
          | ok w2 =>
            have h1 := ih1 _ _ _ _ _ h
            cases e
            simp [Wrt.put] at h1 ⊢
            omega
      | sym n =>
        simp only [tailF] at e
        cases h : showF f (Val.sym n) (Wrt.put w [32, 46, 32]) σ with
        | mk r t =>
          rw [h] at e
          cases r with
          | bad q => cases e
          | ok w2 =>
            have h1 := ih1 _ _ _ _ _ h
            cases e
            simp [Wrt.put] at h1 ⊢
            omega
      | prim n =>
        simp only [tailF] at e
        cases h : showF f (Val.prim n) (Wrt.put w [32, 46, 32]) σ with
        | mk r t =>
          rw [h] at e
          cases r with
          | bad q => cases e
          | ok w2 =>
            have h1 := ih1 _ _ _ _ _ h
            cases e
            simp [Wrt.put] at h1 ⊢
            omega
      | proc n =>
        simp only [tailF] at e
        cases h : showF f (Val.proc n) (Wrt.put w [32, 46, 32]) σ with
        | mk r t =>
          rw [h] at e
          cases r with
          | bad q => cases e
          | ok w2 =>
            have h1 := ih1 _ _ _ _ _ h
            cases e
            simp [Wrt.put] at h1 ⊢
            omega
theorem show_ne (f : Nat) (v : Val) (σ : St) (x : Wrt) (s : St) (e : showF f v ⟨[], 0⟩ σ = (.ok x, s)) (hv : ∀ q, v = .sym q → q.size ≠ 0) (hi : ∀ n, v = .num n → Lib.itoa n ≠ []) : x.txt ≠ [] := by
  cases f with
  | zero => rw [showF] at e; cases e
  | succ f =>
    rw [showF] at e
    rw [if_neg (by decide)] at e
    cases v with
    | num n => cases e; simpa [Wrt.put] using hi n rfl
    | tru b => cases e; simp [Wrt.put]
    | sym q =>
      cases e
      have := hv q rfl
      intro h
      apply this
      have h' : q.data.toList = [] := by simpa [Wrt.put] using h
      show q.data.size = 0
      rw [← Array.length_toList, h']
      rfl
    | nil => cases e; simp [Wrt.put]
    | prim s => cases e; simp [Wrt.put]
    | proc i => cases e; simp [Wrt.put]
    | pair i =>
      simp only at e
      cases h : showF f (valuesF i σ).1.1 (Wrt.put { (⟨[], 0⟩ : Wrt) with nodes := 0 + 1 } [40]) (valuesF i σ).2 with
      | mk r t =>
        rw [h] at e
        cases r with
        | bad q => cases e
        | ok w2 =>
          have h1 := (show_grow f).1 _ _ _ _ _ h
          have h2 := (show_grow f).2 _ _ _ _ _ e
          simp [Wrt.put] at h1
          intro h0
          rw [h0] at h2
          simp at h2
          rw [h2] at h1
          simp at h1
/-- Rows stay as long as they are. -/
structure RX (σ σ' : St) : Prop where
  len : σ.rows.length ≤ σ'.rows.length
  lens : ∀ r, r < σ.rows.length → (σ'.rows.getD r []).length = (σ.rows.getD r []).length
theorem RX.refl (σ : St) : RX σ σ := ⟨Nat.le_refl _, fun _ _ => rfl⟩
theorem RX.trans {a b c : St} (h : RX a b) (k : RX b c) : RX a c := ⟨Nat.le_trans h.len k.len, fun r hr => (k.lens r (Nat.lt_of_lt_of_le hr h.len)).trans (h.lens r hr)⟩
theorem RX.of {a b : St} (h : b.rows = a.rows) : RX a b := ⟨by rw [h]; exact Nat.le_refl _, fun _ _ => by rw [h]⟩
theorem cnt_rx {a b : St} (h : RX a b) : ∀ (e : List Nat), (∀ r ∈ e, r < a.rows.length) → cnt b.rows e = cnt a.rows e
  | [], _ => rfl
  | r :: e, he => by
    rw [cnt, cnt, h.lens r (he r (by simp)), cnt_rx h e (fun x hx => he x (by simp [hx]))]
theorem RX.set (σ : St) (r q : Nat) (v : Val) : RX σ { σ with rows := σ.rows.set r ((σ.rows.getD r []).set q v) } := by
  refine ⟨by simp, fun i hi => ?_⟩
  by_cases e : r = i
  · subst e
    simp [List.getD, hi]
  · simp [List.getD, List.getElem?_set_ne e]
theorem chk_up : ∀ (f : Nat) (d : Dat) (n : Nat), (chk f d n).1 = 0 → alone d = 0 ∧ (d.kind = 4 → ∃ g, f = g + 1 ∧ (chkL (chk g) d.kids (n + 1)).1 = 0)
  | 0, d, n, h => by simp [chk] at h
  | f + 1, d, n, h => by
    unfold chk at h
    by_cases a : 2000 < n + 1
    · rw [if_pos a] at h; simp at h
    rw [if_neg a] at h
    by_cases b : alone d = 0
    · rw [if_pos b] at h
      refine ⟨b, fun h4 => ⟨f, rfl, ?_⟩⟩
      rw [if_pos h4] at h
      exact h
    · rw [if_neg b] at h
      exact absurd h b
theorem chkL_all (g : Dat → Nat → Int × Nat) : ∀ (l : List Dat) (n : Nat), (chkL g l n).1 = 0 → ∀ k ∈ l, ∃ n', (g k n').1 = 0
  | [], n, _, k, hk => by simp at hk
  | d :: r, n, h, k, hk => by
    unfold chkL at h
    by_cases e : (g d n).1 = 0
    · rw [if_pos e] at h
      rcases List.mem_cons.1 hk with rfl | hk
      · exact ⟨n, e⟩
      · exact chkL_all g r _ h k hk
    · rw [if_neg e] at h
      exact absurd h e
theorem smd_of : ∀ (f : Nat) (d : Dat) (n : Nat), (chk f d n).1 = 0 → SmD d
  | 0, d, n, h => by simp [chk] at h
  | f + 1, d, n, h => by
    obtain ⟨ha, h4⟩ := chk_up (f + 1) d n h
    have hk : d.kind = 1 ∨ d.kind = 2 ∨ d.kind = 3 ∨ d.kind = 4 := by
      unfold alone at ha
      by_cases k1 : d.kind = 1
      · exact Or.inl k1
      by_cases k2 : d.kind = 2
      · exact Or.inr (Or.inl k2)
      by_cases k3 : d.kind = 3
      · exact Or.inr (Or.inr (Or.inl k3))
      by_cases k4 : d.kind = 4
      · exact Or.inr (Or.inr (Or.inr k4))
      simp [k1, k2, k3, k4] at ha
    refine .mk d hk (fun k3 => ?_) (fun k1 => ?_) (fun k4 k hk => ?_)
    · unfold alone at ha
      rw [if_neg (by omega), if_neg (by omega), if_pos k3] at ha
      by_cases hn : namedB d.name
      · unfold namedB at hn
        simp only [Bool.and_eq_true, decide_eq_true_eq] at hn
        omega
      · rw [if_neg hn] at ha
        simp at ha
    · unfold alone at ha
      rw [if_pos k1] at ha
      by_cases hn : rangeB d.n
      · exact hn
      · rw [if_neg hn] at ha
        simp at ha
    · obtain ⟨g, hg, hl⟩ := h4 k4
      obtain rfl : f = g := by omega
      obtain ⟨n', hn'⟩ := chkL_all _ _ _ hl k hk
      exact smd_of f k n' hn'
end
section
set_option linter.unusedVariables false
set_option linter.unusedSimpArgs false
open Go.RowKit
open Go.Proofs.YthikdpclifeonaaGreatDoor

theorem show_pair (f i n : Nat) (txt : List UInt8) (σ : St) (hn : ¬ 300 < n + 1) : showF (f + 1) (.pair i) ⟨txt, n⟩ σ = pairF f i ⟨txt, n + 1⟩ σ := by
  rw [showF]
  rw [if_neg hn]
  rfl
set_option maxRecDepth 100000 in
set_option maxHeartbeats 800000 in
theorem value_pairs (B rb : Nat) (gb : Rc) (Bw b T f n : Nat) (IH : ∀ g, g ≤ f → VOK B rb gb Bw b T g) (m : Mm) (σ : St) (txt : List UInt8) (i : Nat) (w : World) (h : ShowAt B rb gb Bw b T m σ n txt w) (hn : n < 300) (hi : i < m.pr.length) (hf : 2 * (301 - n) ≤ f) :
    Calls Tryz.prog 140 #[.pointer (some ⟨b, 0, none⟩), .iface 243 (.pointer (some ⟨m.pr.getD i 0, 0, none⟩))] w (ToldS B rb gb Bw b m w txt.length n (pairF f i ⟨txt, n + 1⟩ σ)) := by
  obtain ⟨c2, z2, hk, hw⟩ := h.node
  have hl := h.len
  have h1 : ShowAt B rb gb Bw b T m σ (n + 1) txt (w.setCell ⟨b, 2, none⟩ (.int .i64 ((n + 1 : Nat) : Int))) := h.kb hk hw hn (by omega)
  have hk' : m.pr[i]? = some (m.pr.getD i 0) := by simp [List.getD, List.getElem?_eq_getElem hi]
  have HS : Hid (Calls Tryz.prog 161 #[.pointer (some ⟨b, 0, none⟩), .pointer (some ⟨m.pr.getD i 0, 0, none⟩)] (w.setCell ⟨b, 2, none⟩ (.int .i64 ((n + 1 : Nat) : Int))) fun e w' => (e = .returned (.tuple #[]) ∨ ∃ q, e = .panicked q) ∧ ToldS B rb gb Bw b m w txt.length n (pairF f i ⟨txt, n + 1⟩ σ) e w') := by
    refine (pair_any B rb gb Bw b T f IH m σ i _ (n + 1) txt _ h1 hk' (by omega) (by omega)).mono ?_
    rintro e w' ⟨m', r, nw, ks, hx⟩
    have hz : (w.setCell ⟨b, 2, none⟩ (.int .i64 ((n + 1 : Nat) : Int))).heap.size = w.heap.size := by simp
    have hT : ∀ x σ5, pairF f i ⟨txt, n + 1⟩ σ = (x, σ5) → (e = .returned (.tuple #[]) ∨ ∃ q, e = .panicked q) ∧ ToldS B rb gb Bw b m w txt.length n (pairF f i ⟨txt, n + 1⟩ σ) e w' := by
      intro x σ5 hx5
      rw [hx5] at r hx ⊢
      have nw' : New m m' w := ⟨nw.x, fun q hq => (nw.pr q hq).imp id (fun z => by rw [hz] at z; exact z), fun q hq => (nw.rw q hq).imp id (fun z => by rw [hz] at z; exact z)⟩
      have ks' : KS B rb gb Bw b m w w' := (KS.ofKB hk).trans (New.refl m w) ks
      cases x with
      | bad q => exact ⟨Or.inr ⟨_, hx⟩, m', r, nw', ks', hx⟩
      | ok x =>
        obtain ⟨g1, g2, g3, g4, g5⟩ := hx
        exact ⟨Or.inl g1, m', r, nw', ks', g1, g2, by omega, g4, by omega⟩
    exact hT _ _ rfl
  have a104 := no104 243 (by decide) (.pointer (some ⟨m.pr.getD i 0, 0, none⟩))
  have a105 := no105 243 (by decide) (.pointer (some ⟨m.pr.getD i 0, 0, none⟩))
  have a137 := no137 243 (by decide) (.pointer (some ⟨m.pr.getD i 0, 0, none⟩))
  have a157 := no157 243 (by decide) (.pointer (some ⟨m.pr.getD i 0, 0, none⟩))
  have ay := assertPrP (.pointer (some ⟨m.pr.getD i 0, 0, none⟩))
  obtain ⟨W1, hW1⟩ : ∃ W1, W1 = w.setCell ⟨b, 2, none⟩ (.int .i64 ((n + 1 : Nat) : Int)) := ⟨_, rfl⟩
  rw [← hW1] at HS hw
  have d2 : W1.cell? ⟨b, 2, none⟩ = some (.int .i64 ((n + 1 : Nat) : Int)) := hw.parts.2.1
  have hw1 := hW1.symm
  obtain ⟨k', hk2⟩ : ∃ k' : Int, k' = n := ⟨_, rfl⟩
  have e1 : ((n + 1 : Nat) : Int) = k' + 1 := by omega
  rw [e1] at hw1 d2
  rw [← hk2] at c2
  have hd : decide (k' + 1 ≤ 300) = true := by simp; omega
  have hb0 : 0 ≤ k' := by omega
  have hb1 : k' ≤ 299 := by omega
  clear h hk hw hn hW1 e1 hk2 h1 hk' hi hf hl IH
  generalize pairF f i ⟨txt, n + 1⟩ σ = R at *
  generalize m.pr.getD i 0 = kk at *
  go_enter Tryz.func140, Tryz.ntmps140
  go_wp2_with fail
  refine (Must_yes _ _).mono ?_
  rintro e w1 ⟨rfl, rfl⟩
  go_wp2_with fail
  refine HS.out.mono ?_
  rintro e w2 ⟨he, ht⟩
  rcases he with rfl | ⟨q, rfl⟩
  · go_wp2_with fail
    go_end0
    exact ht
  · go_wp2_with fail
    exact ⟨rfl, ht⟩
/-- ANY VALUE IS WRITTEN as showF says. -/
theorem value_any (B rb : Nat) (gb : Rc) (Bw b T : Nat) : ∀ (F g : Nat), g ≤ F → VOK B rb gb Bw b T g
  | 0, g, hg => fun m σ v n txt w h hv hf => by omega
  | F + 1, 0, hg => fun m σ v n txt w h hv hf => by omega
  | F + 1, g + 1, hg => fun m σ v n txt w h hv hf => by
    by_cases hp : ∃ i, v = .pair i
    · obtain ⟨i, rfl⟩ := hp
      by_cases hn : 300 < n + 1
      · rw [showF, if_pos hn]
        exact value_much B rb gb Bw b T n m σ txt _ _ w h hn
      · rw [show_pair g i n txt σ hn]
        exact value_pairs B rb gb Bw b T g n (fun q hq => value_any B rb gb Bw b T F q (by omega)) m σ txt i w h (by omega) hv (by omega)
    · exact value_leaf B rb gb Bw b T g m σ v n txt w h hv (fun i e => hp ⟨i, e⟩)
end
section
set_option linter.unusedVariables false
set_option linter.unusedSimpArgs false
open Go.RowKit
open Go.Proofs.YthikdpclifeonaaGreatDoor

theorem KB.freeze {B b : Nat} {w w' : World} (h : KB B b w w') {g n : Nat} {cs : Array Value} {fz : Nat × Nat} (hg : w'.heap[g]? = some (.cells cs 5 fz)) (hb : B ≤ g) : KB B b w (w'.freeze ⟨g, 0, none⟩ n) := by
  have e : ∀ k, k ≠ g → (w'.freeze ⟨g, 0, none⟩ n).heap[k]? = w'.heap[k]? := by
    intro k hk
    unfold World.freeze
    split
    · rfl
    · simp only [Array.getElem?_modify]
      rw [if_neg (by omega)]
  have e2 : (w'.freeze ⟨g, 0, none⟩ n).os = w'.os ∧ (w'.freeze ⟨g, 0, none⟩ n).tape = w'.tape ∧ (w'.freeze ⟨g, 0, none⟩ n).output = w'.output ∧ (w'.freeze ⟨g, 0, none⟩ n).heap.size = w'.heap.size := by
    unfold World.freeze
    split
    · exact ⟨rfl, rfl, rfl, rfl⟩
    · exact ⟨rfl, rfl, rfl, by simp⟩
  refine ⟨e2.1.trans h.os, e2.2.1.trans h.tape, e2.2.2.1.trans h.output, by rw [e2.2.2.2]; exact h.size, fun k hk h1 h2 => ?_⟩
  have e3 := h.block k hk h1 h2
  refine (e k ?_).trans e3
  rintro rfl
  rw [e3] at hg
  have := h2 _ _ hg
  omega
set_option maxRecDepth 100000 in
set_option maxHeartbeats 1600000 in
theorem String_kb (B b : Nat) (k : Int) (l : List UInt8) (w : World) (h : Wr B b k l w) (h0 : l ≠ []) :
    Calls Tryz.prog 141 #[.pointer (some ⟨b, 0, none⟩)] w fun e w' => e = .returned (.string ⟨l.toArray⟩) ∧ KB B b w w' := by
  obtain ⟨p, hp, hB, v, hbk, hown, hne⟩ := h.at
  have hl0 : l.length ≠ 0 := by simpa using h0
  rw [Lib.byteCells_length] at hown
  obtain ⟨g, cap, cur, fz, rfl, hbg, hg, hfz, hnc, hcm, hcs, htake⟩ : ∃ g cap cur fz, v = .slice (some ⟨g, 0, none⟩) l.length cap ∧ B ≤ g ∧ w.heap[g]? = some (.cells cur 5 fz) ∧ fz.2 ≤ l.length * 1 ∧ l.length ≤ cap ∧ cap ≤ maxLen ∧ cur.size = cap * 1 ∧ cur.toList.take (l.length * 1) = Lib.byteCells l := by
    rcases hown.2 with ⟨_, hz⟩ | ⟨g, cap, cur, fz, hv, r⟩
    · exact absurd hz hl0
    · exact ⟨g, cap, cur, fz, hv, r⟩
  have c1 : w.drew.cell? ⟨b, 1, none⟩ = some (.slice (some ⟨g, 0, none⟩) l.length cap) := by
    have : w.drew.heap[b]? = some (.cells #[p, .slice (some ⟨g, 0, none⟩) l.length cap, .int .i64 k] 262 (0, 0)) := hbk
    rw [Lib.cell_of_heap this]; rfl
  have hSD : (Builtin.unsafeSliceData_ #[202] 203 #[.slice (some ⟨g, 0, none⟩) l.length cap]).run Tryz.prog w.drew = .ok (.pointer (some ⟨g, 0, none⟩)) w.drew :=
    Lib.run_unsafeSliceData_row _ _ _ _ _ _ (by omega)
  have hUS : (Builtin.unsafeString_ #[203, 3] 9 #[.pointer (some ⟨g, 0, none⟩), .int .i64 l.length]).run Tryz.prog w.drew = .ok (.string ⟨l.toArray⟩) (w.drew.freeze ⟨g, 0, none⟩ l.length) := by
    refine Lib.run_unsafeString_row w.drew 203 3 9 5 Tryz.underlying203 cellsByte g cur.size (by have hg' : w.drew.heap[g]? = some (.cells cur 5 fz) := hg; simp [World.shape?, hg']) l h0 (by omega) (by unfold maxLen at hcm; omega) ?_
    intro j x hx
    exact hown.cells (g := g) rfl j (.int .u8 x.toNat) (by simp [Lib.byteCells, hx])
  have HK : Hid (KB B b w (w.drew.freeze ⟨g, 0, none⟩ l.length)) := KB.freeze (KB.ofBelow (Below.drew (Below.refl _ w))) (show w.drew.heap[g]? = some (.cells cur 5 fz) from hg) hbg
  clear h hp
  go_enter Tryz.func141, Tryz.ntmps141
  go_wp2
  go_region
  all_goals (go_wp2; go_ret; exact ⟨rfl, HK.out⟩)
/-- What is told of what puts out. -/
def ToldU (B rb : Nat) (gb : Rc) (m : Mm) (w : World) (r : Res Val × St) (e : Ending) (w' : World) : Prop :=
  ∃ m', Rel B rb gb m' r.2 w' ∧ New m m' w ∧ KR B rb gb m w w' ∧ match r.1 with | .ok _ => e = .returned (.tuple #[]) | .bad h => e = .panicked (endP h)
theorem KR.ofShow {B rb : Nat} {gb : Rc} {m : Mm} {A : Obj} {w w2 : World} (ks : KS B rb gb w.heap.size w.heap.size m (w.alloc A) w2) : KR B rb gb m w w2 := by
  have hb : Below w.heap.size w (w.alloc A) := (Below.refl _ _).alloc (Nat.le_refl _) _
  refine ⟨ks.os.trans hb.os, ks.tape.trans hb.tape, ks.output.trans hb.output, Nat.le_trans hb.size ks.size, fun k hk h1 h2 h3 h4 h5 => ?_⟩
  have e := hb.block k hk
  exact (ks.block k (Nat.lt_of_lt_of_le hk hb.size) h1 h2 (by omega) h3 h4 (fun cs fz hx => h5 cs fz (e.symm.trans hx)) (fun _ _ _ => hk)).trans e
theorem New.ofShow {m m2 : Mm} {A : Obj} {w : World} (n : New m m2 (w.alloc A)) : New m m2 w :=
  ⟨n.x, fun k hk => (n.pr k hk).imp id (fun z => by simp at z; omega), fun k hk => (n.rw k hk).imp id (fun z => by simp at z; omega)⟩
theorem put_endK {B rb : Nat} {gb : Rc} {m m2 : Mm} {σ1 : St} {A : Obj} {s : List UInt8} {w w2 w3 w5 : World} (hs : B ≤ w.heap.size) (hrb : B ≤ rb)
    (ks : KS B rb gb w.heap.size w.heap.size m (w.alloc A) w2) (n2 : New m m2 (w.alloc A)) (r3 : Rel B rb gb m2 σ1 w3) (k3 : KB w.heap.size w.heap.size w2 w3) (kt : KT B rb w3 w5)
    (rt : RT B rb (σ1.out ++ [s]) gb w5) : Rel B rb gb m2 { σ1 with out := σ1.out ++ [s] } w5 ∧ New m m2 w ∧ KR B rb gb m w w5 := by
  have k1 := KR.ofShow ks
  have hs3 : B ≤ w3.heap.size := Nat.le_trans hs (Nat.le_trans k1.size k3.size)
  obtain ⟨tv, hRN, _⟩ := r3.run
  refine ⟨r3.keep (fun k cs t hk ht => kt.at hk (by rcases ht with rfl | rfl | rfl | rfl <;> decide) ?_) (kt.toBelow hrb hs3) _ rt, n2.ofShow, ?_⟩
  · rintro rfl
    rw [show w3.heap[k]? = _ from hRN] at hk
    simp only [Option.some.injEq, Obj.cells.injEq] at hk
    obtain ⟨_, rfl, _⟩ := hk
    simp at ht
  · refine ⟨kt.os.trans (k3.os.trans k1.os), kt.tape.trans (k3.tape.trans k1.tape), kt.output.trans (k3.output.trans k1.output), Nat.le_trans k1.size (Nat.le_trans k3.size kt.size), fun k hk h1 h2 h3 h4 h5 => ?_⟩
    have e1 := k1.block k hk h1 h2 h3 h4 h5
    have e2 := k3.block k (Nat.lt_of_lt_of_le hk k1.size) (by omega) (fun _ _ _ => hk)
    exact (kt.block k (Nat.lt_of_lt_of_le hk (Nat.le_trans k1.size k3.size)) h1 (fun cs fz hx => h5 cs fz (e1.symm.trans (e2.symm.trans hx)))).trans (e2.trans e1)
theorem own_kb {B rb Bw b n : Nat} {tv : Value} {gb : Rc} {xs : List Value} {W W' : World} (hr : RN rb tv gb W) (h2 : W.ownsRow B 9 1 tv n xs) (hk : KB Bw b W W') (hb : ∃ cs, W.heap[b]? = some (.cells cs 262 (0, 0))) : RN rb tv gb W' ∧ W'.ownsRow B 9 1 tv n xs := by
  obtain ⟨cb, hb⟩ := hb
  refine ⟨hk.at hr (by decide) (ne_type hb hr (by decide)), h2.1, ?_⟩
  rcases h2.2 with ⟨rfl, hn⟩ | ⟨g, cap, cur, hv, hbg, hg, r⟩
  · exact Or.inl ⟨rfl, hn⟩
  · exact Or.inr ⟨g, cap, cur, hv, hbg, hk.at hg (by decide) (ne_type hb hg (by decide)), r⟩
set_option maxRecDepth 100000 in
set_option maxHeartbeats 3200000 in
theorem put_any (B rb : Nat) (gb : Rc) (T : Nat) (m : Mm) (σ : St) (v : Val) (w : World) (h : Rel B rb gb m σ w) (hs : B ≤ w.heap.size) (hT : T ≤ B) (tab : Tab T w) (hv : VOk m v) :
    Calls Tryz.prog 125 #[.pointer (some ⟨rb, 0, none⟩), .iface (vT v) (vX m v)] w (ToldU B rb gb m w (putF v σ)) := by
  obtain ⟨tv, hR, hO⟩ := h.run
  obtain ⟨va, vc, htv, hvc⟩ := own_slice hO
  subst htv
  have c0 : w.cell? ⟨rb, 0, none⟩ = some (.slice va σ.out.length vc) := (cellO hR).trans rfl
  unfold putF
  by_cases hn : σ.out.length < 200
  · rw [if_pos hn]
    have HBA : Hid (Below w.heap.size w (w.alloc (.cells #[.pointer none, .slice none 0 0, .int .i64 0] 262))) := (Below.refl w.heap.size w).alloc (Nat.le_refl _) _
    have hsa : ShowAt B rb gb w.heap.size w.heap.size T m σ 0 [] (w.alloc (.cells #[.pointer none, .slice none 0 0, .int .i64 0] 262)) := ⟨h.below HBA.out hs, fresh_Wr w, hs, by simp, hT, tab.below (HBA.out.mono (by omega)), by omega, by simp⟩
    have HV := hidd (value_any B rb gb w.heap.size w.heap.size T 1000 1000 (Nat.le_refl _) m σ v 0 [] _ hsa hv (by omega))
    have hsm := (show_same 1000).1 v ⟨[], 0⟩ σ
    have hd : decide ((σ.out.length : Int) < 200) = true := by simp; omega
    have hd' : (σ.out.length : Int) < 200 := by omega
    have HH := hidd h
    have HHS := hidd hs
    have HVI : Hid ((∀ q, v = .sym q → q.size ≠ 0) ∧ ∀ n, v = .num n → Lib.itoa n ≠ []) := ⟨fun q e => by subst e; exact hv.2, fun n e => itoa_some n⟩
    clear h hR hO hvc hsa tab hs hv
    cases hsh : showF 1000 v ⟨[], 0⟩ σ with
    | mk x σ1 =>
      rw [hsh] at HV hsm
      generalize vX m v = xv at *
      cases x with
      | bad q =>
        simp only
        clear hsh
        go_enter Tryz.func125, Tryz.ntmps125
        go_wp2_with fail
        refine (Must_yes _ _).mono ?_
        rintro e w1 ⟨rfl, rfl⟩
        go_wp2_with fail
        refine HV.out.mono ?_
        rintro e w2 ⟨m2, r2, n2, ks, rfl⟩
        go_wp2_with fail
        exact ⟨rfl, m2, r2, n2.ofShow, KR.ofShow ks, rfl⟩
      | ok x =>
        simp only
        have HNE := hidd (show_ne 1000 v σ x σ1 hsh HVI.out.1 HVI.out.2)
        obtain ⟨i0, hinf, hz0, hz1, hz2⟩ := info_parts infoStr
        have ho1 : σ1.out = σ.out := hsm
        clear hsh hsm
        go_enter Tryz.func125, Tryz.ntmps125
        go_wp2_with fail
        refine (Must_yes _ _).mono ?_
        rintro e w1 ⟨rfl, rfl⟩
        go_wp2_with fail
        refine HV.out.mono ?_
        rintro e w2 ⟨m2, r2, n2, ks, rfl, hw2, _, _, _⟩
        obtain ⟨tv2, hR2, hO2⟩ := r2.run
        obtain ⟨va2, vc2, htv, hvc⟩ := own_slice hO2
        subst htv
        rw [ho1] at hR2 hO2
        have d0 : w2.cell? ⟨rb, 0, none⟩ = some (.slice va2 σ.out.length vc2) := (cellO hR2).trans rfl
        have HW2 := hidd hw2
        have ST : Hid (∀ W, Wr w1.heap.size w1.heap.size x.nodes x.txt W → Calls Tryz.prog 141 #[.pointer (some ⟨w1.heap.size, 0, none⟩)] W fun e w' => e = .returned (.string ⟨x.txt.toArray⟩) ∧ KB w1.heap.size w1.heap.size W w') := fun W hW => String_kb _ _ x.nodes x.txt W hW HNE.out
        have HR2 := hidd r2
        have HRO : Hid (RN rb (.slice va2 σ.out.length vc2) gb w2 ∧ w2.ownsRow B 9 1 (.slice va2 σ.out.length vc2) σ.out.length (σ.out.map strV)) := ⟨hR2, hO2⟩
        have HKN : Hid (KS B rb gb w1.heap.size w1.heap.size m (w1.alloc (.cells #[.pointer none, .slice none 0 0, .int .i64 0] 262)) w2 ∧ New m m2 (w1.alloc (.cells #[.pointer none, .slice none 0 0, .int .i64 0] 262))) := ⟨ks, n2⟩
        have HSZ : Hid (w1.heap.size ≤ w2.heap.size) := (KR.ofShow ks).size
        have HN : Hid (σ.out.length < 200) := hn
        have HO1 := hidd ho1
        clear hw2 HV HBA r2 n2 ks hR2 hO2 hvc ho1 hn
        go_wp2_with fail
        go_region_law (first
          | (refine step_append_lies _ rfl (.tmp 18) (.tmp 21) 27 rfl B 9 i0 _ 1 16 Tryz.underlying27 hinf hz0 hz1 hz2 rfl (by decide) (.slice va2 σ.out.length vc2) σ.out.length (σ.out.map strV) rfl (by exact HO3.out.2.alloc _) ⟨w3.heap.size, 0, none⟩ 1 1 [strV x.txt] rfl rfl (by exact one_news w3 _) (by exact one_one x.txt) (by decide) (by have := HN.out; unfold maxLen; omega) (by have := HN.out; omega) (by have := HHS.out; have := HSZ.out; have := HB3.out.size; simp; omega) (w3.heap.size + 1) (by simp) ?_; intro g cap w4 hown hgrow hat hlt4; have HX := hidd (put_last HO3.out.1 HO3.out.2 (Below.refl _ _) hown hgrow); have d4 : w4.cell? ⟨rb, 0, none⟩ = some (.slice va2 σ.out.length vc2) := cell_grown HO3.out.1 (own_ne HO3.out.2 HO3.out.1) (Below.refl _ _) hgrow; have z4 : w4.frozen? ⟨rb, 0, none⟩ = false := loose_grown HO3.out.1 (own_ne HO3.out.2 HO3.out.1) (Below.refl _ _) hgrow)
          | (go_simp; go_at_call 141; refine (ST.out _ HW2.out.drew).mono ?_; rintro e w3 ⟨rfl, hb3⟩; have HB3 : Hid (KB w1.heap.size w1.heap.size w2 w3) := (KB.ofBelow (Below.drew (Below.refl _ w2))).trans hb3; have HO3 := hidd (own_kb HRO.out.1 HRO.out.2 HB3.out HW2.out.box.2); have d3 : w3.cell? ⟨rb, 0, none⟩ = some (.slice va2 σ.out.length vc2) := (cellO HO3.out.1).trans rfl; have d3a := cell_alloc (.cells #[.string ⟨x.txt.toArray⟩] 9) d3; clear hb3; dsimp only))
        all_goals
          have HF := hidd (put_endK HHS.out HH.out.hB HKN.out.1 HKN.out.2 (HR2.out.kb HB3.out HW2.out HHS.out (Nat.le_trans HHS.out HSZ.out)) HB3.out HX.out.1 (by rw [HO1.out]; exact HX.out.2))
          clear hown hgrow hat hlt4
          rw [HO1.out] at HF
          rw [HO1.out]
          go_wp2_with fail
          go_end0
          exact ⟨m2, HF.out.1, HF.out.2.1, HF.out.2.2, rfl⟩
  · rw [if_neg hn]
    have hd : decide ((σ.out.length : Int) < 200) = false := by simp; omega
    have hd' : ¬ (σ.out.length : Int) < 200 := by omega
    have HH := hidd h
    clear h hR hO hvc hn hv
    generalize vX m v = xv at *
    go_enter Tryz.func125, Tryz.ntmps125
    go_wp2_with fail
    refine (Must_no _ _).mono ?_
    rintro e w1 ⟨rfl, rfl⟩
    go_wp2_with fail
    exact ⟨rfl, m, HH.out, New.refl m _, KR.refl _ _ _ _ _, rfl⟩
end
end Go.Proofs.YthikdpclifeonaaGreatDoor.V
