/- Chapter 11, plainly: a step keeps the machine's form. Chapter 11, plainly: a step keeps the machine's form. Chapter 11, plainly: a step keeps the machine's form, whatever the instruction is. Chapter 11, plainly: how high the stack is; who waits. -/
import Derived.Test.YthikdpclifeonaaGreatDoorK33
import Derived.Test.YthikdpclifeonaaGreatDoorK37
namespace Go.Proofs.YthikdpclifeonaaGreatDoor.V
section
set_option linter.unusedVariables false
set_option linter.unusedSimpArgs false
open Go.Proofs.YthikdpclifeonaaGreatDoor

/-- What a right image is like, its heights by number. -/
structure Img (PP : List Pro) (ss : List Int) (gl : In → Int) (K : Kn) (HF : Nat → List Int) : Prop where
  len : K.length = PP.length
  st : ∀ b ∈ ss, 0 ≤ b ∧ b < (PP.length : Int) ∧ K[b.toNat]? = some (some (true, 0))
  pro : ∀ (i : Nat) (P : Pro), PP[i]? = some P → (1 ≤ P.code.length ∧ P.code.length ≤ 6000 ∧ 0 ≤ P.args ∧ P.args ≤ 2000) ∧ ∃ (bd : Bool) (ar : Int), K[i]? = some (some (bd, ar)) ∧ (∀ x ∈ P.code, InsR PP gl K i P.code.length ar x) ∧ (HF i).length = P.code.length ∧ (HF i)[0]? = some (0 : Int) ∧ ∀ (j : Nat) (x : In), P.code[j]? = some x → ∃ k : Int, (HF i)[j]? = some k ∧ StOk (if bd then 0 else 1) (HF i) j x k
theorem img_of {PP : List Pro} {ss : List Int} {gl : In → Int} {K : Kn} (h : ImR PP ss gl K) : ∃ HF, Img PP ss gl K HF := by
  have key : ∀ i : Nat, ∃ H : List Int, ∀ P, PP[i]? = some P → (1 ≤ P.code.length ∧ P.code.length ≤ 6000 ∧ 0 ≤ P.args ∧ P.args ≤ 2000) ∧ ∃ (bd : Bool) (ar : Int), K[i]? = some (some (bd, ar)) ∧ (∀ x ∈ P.code, InsR PP gl K i P.code.length ar x) ∧ H.length = P.code.length ∧ H[0]? = some (0 : Int) ∧ ∀ (j : Nat) (x : In), P.code[j]? = some x → ∃ k : Int, H[j]? = some k ∧ StOk (if bd then 0 else 1) H j x k := by
    intro i
    cases hP : PP[i]? with
    | none => exact ⟨[], fun P e => by cases e⟩
    | some P =>
      obtain ⟨h1, bd, ar, H, h2⟩ := h.pro i P hP
      exact ⟨H, fun P' e => by cases e; exact ⟨h1, bd, ar, h2⟩⟩
  exact ⟨fun i => Classical.choose (key i), h.len, h.st, fun i P hP => Classical.choose_spec (key i) P hP⟩
/-- A place: the procedure, where it goes on, what is around; so many values are its own. -/
def Good (PP : List Pro) (K : Kn) (HF : Nat → List Int) (rows : List (List Val)) (pl : Nat × Nat × List Nat) (b : Bool) (h : Int) : Prop :=
  ∃ (P : Pro) (ar : Int), PP[pl.1]? = some P ∧ K[pl.1]? = some (some (b, ar)) ∧ (HF pl.1)[pl.2.1]? = some h ∧ ((cnt rows pl.2.2 : Nat) : Int) = ar ∧ (∀ r ∈ pl.2.2, r < rows.length) ∧ ar ≤ 2000 * pl.1
/-- Those that wait, and how many values are theirs. -/
inductive Wait (PP : List Pro) (K : Kn) (HF : Nat → List Int) (rows : List (List Val)) : List (Nat × Nat × List Nat) → Nat → Prop
  | nil : Wait PP K HF rows [] 0
  | snoc (l : List (Nat × Nat × List Nat)) (n : Nat) (pl : Nat × Nat × List Nat) (k : Nat) : Wait PP K HF rows l n → Good PP K HF rows pl (decide (l = [])) ((k : Int) + 1) → Wait PP K HF rows (l ++ [pl]) (n + k)
theorem Good.rx {PP : List Pro} {K : Kn} {HF : Nat → List Int} {σ σ' : St} {pl : Nat × Nat × List Nat} {b : Bool} {h : Int} (g : Good PP K HF σ.rows pl b h) (x : RX σ σ') : Good PP K HF σ'.rows pl b h := by
  obtain ⟨P, ar, h1, h2, h3, h4, h5, h6⟩ := g
  exact ⟨P, ar, h1, h2, h3, by rw [cnt_rx x _ h5]; exact h4, fun r hr => Nat.lt_of_lt_of_le (h5 r hr) x.len, h6⟩
theorem Wait.rx {PP : List Pro} {K : Kn} {HF : Nat → List Int} {σ σ' : St} {l : List (Nat × Nat × List Nat)} {n : Nat} (g : Wait PP K HF σ.rows l n) (x : RX σ σ') : Wait PP K HF σ'.rows l n := by
  induction g with
  | nil => exact .nil
  | snoc l n pl k _ h ih => exact .snoc l n pl k ih (h.rx x)
/-- A procedure that was made. -/
def PGood (PP : List Pro) (K : Kn) (rows : List (List Val)) (q : ProcS) : Prop :=
  ∃ (P : Pro) (ar : Int), PP[q.proto]? = some P ∧ K[q.proto]? = some (some (false, ar)) ∧ ((cnt rows q.env : Nat) : Int) + P.args = ar ∧ (∀ r ∈ q.env, r < rows.length) ∧ ar ≤ 2000 * q.proto
theorem PGood.rx {PP : List Pro} {K : Kn} {σ σ' : St} {q : ProcS} (g : PGood PP K σ.rows q) (x : RX σ σ') : PGood PP K σ'.rows q := by
  obtain ⟨P, ar, h1, h2, h3, h4, h5⟩ := g
  exact ⟨P, ar, h1, h2, by rw [cnt_rx x _ h4]; exact h3, fun r hr => Nat.lt_of_lt_of_le (h4 r hr) x.len, h5⟩
/-- THE MACHINE'S FORM. -/
structure WF (PP : List Pro) (K : Kn) (HF : Nat → List Int) (ng : Nat) (c : Mc) : Prop where
  cur : ∃ (h n : Nat), Good PP K HF c.st.rows (c.p, c.next, c.env) (decide (c.calls = [])) (h : Int) ∧ Wait PP K HF c.st.rows c.calls n ∧ c.stack.length = n + h
  procs : ∀ q ∈ c.st.procs, PGood PP K c.st.rows q
  glob : c.glob.length = ng
/-- Behind an instruction that leaves places, calls and rows' lengths as they are. -/
theorem WF.next {PP : List Pro} {K : Kn} {HF : Nat → List Int} {ng : Nat} {c d : Mc} (w : WF PP K HF ng c) {h n h' nx : Nat} (hg : Good PP K HF c.st.rows (c.p, c.next, c.env) (decide (c.calls = [])) (h : Int)) (hw : Wait PP K HF c.st.rows c.calls n) (hH : (HF c.p)[nx]? = some (h' : Int)) (e1 : d.p = c.p) (e2 : d.next = nx) (e3 : d.env = c.env) (e4 : d.calls = c.calls) (e5 : d.stack.length = n + h') (x : RX c.st d.st) (hp : ∀ q ∈ d.st.procs, PGood PP K d.st.rows q) (hgl : d.glob.length = ng) : WF PP K HF ng d := by
  refine ⟨⟨h', n, ?_, by rw [e4]; exact hw.rx x, e5⟩, hp, hgl⟩
  rw [e1, e2, e3, e4]
  have hg' := hg.rx x
  obtain ⟨P, ar, h1, h2, h3, h4, h5, h6⟩ := hg'
  exact ⟨P, ar, h1, h2, hH, h4, h5, h6⟩
end
section
set_option linter.unusedVariables false
set_option linter.unusedSimpArgs false
open Go.Proofs.YthikdpclifeonaaGreatDoor

/-- What a step leaves. -/
def StepR (PP : List Pro) (K : Kn) (HF : Nat → List Int) (ng : Nat) : Res Bool × Mc → Prop
  | (.ok true, d) => WF PP K HF ng d
  | (.ok false, d) => d.calls = [] ∧ d.stack = [] ∧ (∀ q ∈ d.st.procs, PGood PP K d.st.rows q) ∧ d.glob.length = ng
  | (.bad _, d) => True
theorem RX.more (σ : St) (r : List Val) : RX σ { σ with rows := σ.rows ++ [r] } := ⟨by simp, fun i hi => by simp [List.getD, List.getElem?_append_left hi]⟩
theorem WF.qt {PP : List Pro} {K : Kn} {σ σ' : St} (q : Qt σ σ') (h : ∀ p ∈ σ.procs, PGood PP K σ.rows p) : ∀ p ∈ σ'.procs, PGood PP K σ'.rows p := by
  obtain ⟨h1, h2⟩ := q
  rw [h1, h2]
  exact h
theorem call_wf {PP : List Pro} {ss : List Int} {gl : In → Int} {K : Kn} {HF : Nat → List Int} {ng : Nat} {c : Mc} (im : Img PP ss gl K HF) {h n a nx : Nat} (hp : ∀ q ∈ c.st.procs, PGood PP K c.st.rows q) (hgl : c.glob.length = ng)
    (hg : Good PP K HF c.st.rows (c.p, nx, c.env) (decide (c.calls = [])) (((h - a : Nat) : Int))) (e2 : c.next = nx) (ha : a + 1 ≤ h) (hw : Wait PP K HF c.st.rows c.calls n) (hs : c.stack.length = n + h) : StepR PP K HF ng (callM PP a c) := by
  subst e2
  unfold callM
  simp only
  have hk : c.stack.length - a - 1 = n + (h - a - 1) := by omega
  have htk : (c.stack.take (c.stack.length - a - 1)).length = n + (h - a - 1) := by rw [List.length_take, hk]; omega
  have hdr : (c.stack.drop (c.stack.length - a - 1 + 1)).length = a := by rw [List.length_drop]; omega
  cases c.stack.getD (c.stack.length - a - 1) .nil with
  | prim p =>
    simp only
    have hq := prim_qt p (c.stack.drop (c.stack.length - a - 1 + 1)) c.st
    cases hp' : primF p (c.stack.drop (c.stack.length - a - 1 + 1)) c.st with
    | mk r s =>
      rw [hp'] at hq
      cases r with
      | bad q => trivial
      | ok v =>
        have x : RX c.st s := RX.of hq.1
        refine ⟨⟨h - a, n, hg.rx x, hw.rx x, ?_⟩, WF.qt hq hp, hgl⟩
        show (c.stack.take _ ++ [v]).length = _
        rw [List.length_append, htk, List.length_singleton]
        omega
  | proc i =>
    simp only
    cases hi : c.st.procs[i]? with
    | none => trivial
    | some q =>
      simp only
      obtain ⟨P, ar, g1, g2, g3, g4, g5⟩ := hp q (List.mem_of_getElem? hi)
      have hPd : PP.getD q.proto pro0 = P := by simp [List.getD, g1]
      rw [hPd]
      obtain ⟨hsz, bd, ar', p1, p2, p3, p4, p5⟩ := im.pro q.proto P g1
      rw [g2] at p1
      cases p1
      by_cases z1 : (a : Int) = P.args
      · rw [if_pos z1]
        by_cases z2 : c.calls.length < 200
        · rw [if_pos z2]
          have hsn : ∀ σ', RX c.st σ' → Wait PP K HF σ'.rows (c.calls ++ [(c.p, c.next, c.env)]) (n + (h - a - 1)) := fun σ' x => .snoc _ _ _ _ (hw.rx x) (by
            have e : (((h - a - 1 : Nat) : Int) + 1) = ((h - a : Nat) : Int) := by omega
            rw [e]
            exact hg.rx x)
          cases hargs : c.stack.drop (c.stack.length - a - 1 + 1) with
          | nil =>
            rw [hargs] at hdr
            simp at hdr
            refine ⟨⟨0, n + (h - a - 1), ?_, hsn c.st (RX.refl _), by show (c.stack.take _).length = _; rw [htk]; omega⟩, hp, hgl⟩
            refine ⟨P, ar, g1, ?_, p4, (show ((cnt c.st.rows q.env : Nat) : Int) = ar by omega), g4, g5⟩
            have : decide (c.calls ++ [(c.p, c.next, c.env)] = []) = false := by simp
            rw [this]
            exact g2
          | cons v t =>
            rw [hargs] at hdr
            have x := RX.more c.st (v :: t)
            refine ⟨⟨0, n + (h - a - 1), ?_, hsn _ x, by show (c.stack.take _).length = _; rw [htk]; omega⟩, fun p hp' => (hp p hp').rx x, hgl⟩
            refine ⟨P, ar, g1, ?_, p4, ?_, fun r hr => ?_, g5⟩
            · have : decide (c.calls ++ [(c.p, c.next, c.env)] = []) = false := by simp
              rw [this]
              exact g2
            · have e1 := cnt_rx x q.env g4
              have e2 : cnt (c.st.rows ++ [v :: t]) (c.st.rows.length :: q.env) = (v :: t).length + cnt (c.st.rows ++ [v :: t]) q.env := by
                rw [cnt]
                simp [List.getD]
              show ((cnt (c.st.rows ++ [v :: t]) (c.st.rows.length :: q.env) : Nat) : Int) = ar
              have e3 : cnt (c.st.rows ++ [v :: t]) q.env = cnt c.st.rows q.env := e1
              rw [e2, e3, hdr]
              omega
            · show r < (c.st.rows ++ [v :: t]).length
              rw [List.length_append, List.length_singleton]
              rcases List.mem_cons.1 hr with rfl | hr
              · omega
              · have := g4 r hr
                omega
        · rw [if_neg z2]; trivial
      · rw [if_neg z1]; trivial
  | num n => trivial
  | tru b => trivial
  | sym s => trivial
  | nil => trivial
  | pair i => trivial
end
section
set_option linter.unusedVariables false
set_option linter.unusedSimpArgs false
open Go.Proofs.YthikdpclifeonaaGreatDoor

theorem Wait.last {PP : List Pro} {K : Kn} {HF : Nat → List Int} {rows : List (List Val)} {l : List (Nat × Nat × List Nat)} {n : Nat} (g : Wait PP K HF rows l n) : (l = [] ∧ n = 0) ∨ ∃ l' pl m k, l = l' ++ [pl] ∧ n = m + k ∧ Wait PP K HF rows l' m ∧ Good PP K HF rows pl (decide (l' = [])) ((k : Int) + 1) := by
  cases g with
  | nil => exact Or.inl ⟨rfl, rfl⟩
  | snoc l n pl k h1 h2 => exact Or.inr ⟨l, pl, n, k, rfl, rfl, h1, h2⟩
theorem leave_nil {d : Mc} (h : d.calls = []) : leaveM d = (.ok false, d) := by
  unfold leaveM
  rw [h]
  rfl
theorem leave_snoc {d : Mc} {l : List (Nat × Nat × List Nat)} {p n : Nat} {e : List Nat} (h : d.calls = l ++ [(p, n, e)]) : leaveM d = (.ok true, { d with p := p, next := n, env := e, calls := l }) := by
  unfold leaveM
  rw [h]
  simp
theorem ins_cases2 (P : Res Bool × Mc → Prop) (PP : List Pro) (x : In) (c : Mc)
    (g1 : x.op = 1 → P (.ok true, c.push (.num x.n)))
    (g2 : x.op = 2 → P (.ok true, c.push (.tru (decide (x.n = 1)))))
    (g3 : x.op = 3 → P (.ok true, { c with st := (quotedF x.quote c.st).2, stack := c.stack ++ [(quotedF x.quote c.st).1] }))
    (g4 : x.op = 4 → P (.ok true, c.push ((lookF c.st.rows c.env x.a.toNat).getD .nil)))
    (g5 : x.op = 5 → P (match c.glob.getD x.a.toNat none with | some v => (.ok true, c.push v) | none => (.bad 3, c)))
    (g6 : x.op = 6 → P (.ok true, c.push (.prim x.own)))
    (g7 : x.op = 7 → P (.ok true, { c with st := { c.st with procs := c.st.procs ++ [⟨x.a.toNat, c.env⟩] }, stack := c.stack ++ [.proc c.st.procs.length] }))
    (g8 : x.op = 8 → P (callM PP x.a.toNat c))
    (g9 : x.op = 9 → P (.ok true, { c with next := x.a.toNat }))
    (g10 : x.op = 10 → P (.ok true, if c.top = .tru false then { c.pop with next := x.a.toNat } else c.pop))
    (g11 : x.op = 11 → P (match (spotsF c.st.rows c.env)[x.a.toNat]? with | some (r, q) => (.ok true, { c with st := { c.st with rows := c.st.rows.set r ((c.st.rows.getD r []).set q c.top) } }) | none => (.ok true, c)))
    (g12 : x.op = 12 → P (match c.glob.getD x.a.toNat none with | some _ => (.ok true, { c with glob := c.glob.set x.a.toNat (some c.top) }) | none => (.bad 3, c)))
    (g13 : x.op = 13 → P (.ok true, { c with glob := c.glob.set x.a.toNat (some c.top) }))
    (g14 : x.op = 14 → P (.ok true, c.pop))
    (g15 : x.op = 15 → P (leaveM c))
    (g0 : 1 ≤ x.op ∧ x.op ≤ 15) : P (insM PP x c) := by
  unfold insM
  by_cases h1 : x.op = 1
  · rw [if_pos h1]; exact g1 h1
  rw [if_neg h1]
  by_cases h2 : x.op = 2
  · rw [if_pos h2]; exact g2 h2
  rw [if_neg h2]
  by_cases h3 : x.op = 3
  · rw [if_pos h3]; exact g3 h3
  rw [if_neg h3]
  by_cases h4 : x.op = 4
  · rw [if_pos h4]; exact g4 h4
  rw [if_neg h4]
  by_cases h5 : x.op = 5
  · rw [if_pos h5]; exact g5 h5
  rw [if_neg h5]
  by_cases h6 : x.op = 6
  · rw [if_pos h6]; exact g6 h6
  rw [if_neg h6]
  by_cases h7 : x.op = 7
  · rw [if_pos h7]; exact g7 h7
  rw [if_neg h7]
  by_cases h8 : x.op = 8
  · rw [if_pos h8]; exact g8 h8
  rw [if_neg h8]
  by_cases h9 : x.op = 9
  · rw [if_pos h9]; exact g9 h9
  rw [if_neg h9]
  by_cases h10 : x.op = 10
  · rw [if_pos h10]; exact g10 h10
  rw [if_neg h10]
  by_cases h11 : x.op = 11
  · rw [if_pos h11]; exact g11 h11
  rw [if_neg h11]
  by_cases h12 : x.op = 12
  · rw [if_pos h12]; exact g12 h12
  rw [if_neg h12]
  by_cases h13 : x.op = 13
  · rw [if_pos h13]; exact g13 h13
  rw [if_neg h13]
  by_cases h14 : x.op = 14
  · rw [if_pos h14]; exact g14 h14
  rw [if_neg h14]
  by_cases h15 : x.op = 15
  · rw [if_pos h15]; exact g15 h15
  rw [if_neg h15]
  omega
set_option maxHeartbeats 1600000 in
/-- A STEP KEEPS THE FORM. -/

theorem step_wf {PP : List Pro} {ss : List Int} {gl : In → Int} {K : Kn} {HF : Nat → List Int} {ng : Nat} {c : Mc} (im : Img PP ss gl K HF) (w : WF PP K HF ng c) (hl : c.left ≠ 0) : StepR PP K HF ng (stepM PP c) ∧ ∃ P ar bd, PP[c.p]? = some P ∧ c.next < P.code.length ∧ P.code[c.next]? = some (nextM PP c) ∧ K[c.p]? = some (some (bd, ar)) ∧ InsR PP gl K c.p P.code.length ar (nextM PP c) ∧ ((cnt c.st.rows c.env : Nat) : Int) = ar ∧ ar ≤ 2000 * c.p ∧ (movesI (nextM PP c)).1 ≤ (c.stack.length : Int) := by
  obtain ⟨h, n, hg, hw, hs⟩ := w.cur
  have hgg := hg
  obtain ⟨P, ar, g1, g2, g3, g4, g5, g6⟩ := hg
  obtain ⟨hsz, bd, ar', p1, p2, p3, p4, p5⟩ := im.pro c.p P g1
  rw [g2] at p1
  cases p1
  have hnx : c.next < P.code.length := by rw [← p3]; exact (List.getElem?_eq_some_iff.1 g3).1
  have hx : P.code[c.next]? = some (nextM PP c) := by
    unfold nextM
    rw [show PP.getD c.p pro0 = P by simp [List.getD, g1], List.getD_eq_getElem?_getD, List.getElem?_eq_getElem hnx]
    rfl
  have hr := p2 _ (List.mem_of_getElem? hx)
  obtain ⟨k, k1, st⟩ := p5 _ _ hx
  rw [show (HF c.p)[c.next]? = some (h : Int) from g3] at k1
  cases k1
  obtain ⟨s1, s2, s3, s4⟩ := st
  refine ⟨?_, P, ar, _, g1, hnx, hx, g2, hr, g4, g6, by omega⟩
  unfold stepM
  rw [if_neg hl]
  generalize nextM PP c = x at *
  have mv := moves_pos x
  have rfl0 : RX c.st c.st := RX.refl _
  -- an instruction behind which the next one comes
  have go : ∀ (d : Mc) (h' : Nat), x.op ≠ 9 → x.op ≠ 15 → (h : Int) - (movesI x).1 + (movesI x).2 = (h' : Int) → d.p = c.p → d.next = c.next + 1 → d.env = c.env → d.calls = c.calls → d.stack.length = n + h' → RX c.st d.st → (∀ q ∈ d.st.procs, PGood PP K d.st.rows q) → d.glob.length = ng → WF PP K HF ng d := fun d h' a1 a2 a3 e1 e2 e3 e4 e5 e6 e7 e8 => w.next hgg hw (nx := c.next + 1) (by rw [s4 a1 a2, a3]) e1 e2 e3 e4 e5 e6 e7 e8
  have m17 : x.op = 1 ∨ x.op = 2 ∨ x.op = 3 ∨ x.op = 4 ∨ x.op = 5 ∨ x.op = 6 ∨ x.op = 7 → movesI x = (0, 1) := fun q => by unfold movesI; rw [if_pos q]
  have push : ∀ (d : Mc), (x.op = 1 ∨ x.op = 2 ∨ x.op = 3 ∨ x.op = 4 ∨ x.op = 5 ∨ x.op = 6 ∨ x.op = 7) → d.p = c.p → d.next = c.next + 1 → d.env = c.env → d.calls = c.calls → d.stack.length = c.stack.length + 1 → RX c.st d.st → (∀ q ∈ d.st.procs, PGood PP K d.st.rows q) → d.glob.length = ng → WF PP K HF ng d := fun d a1 e1 e2 e3 e4 e5 e6 e7 e8 => go d (h + 1) (by omega) (by omega) (by rw [m17 a1]; simp) e1 e2 e3 e4 (by omega) e6 e7 e8
  refine ins_cases2 (StepR PP K HF ng) PP x _ (fun o => push _ (by omega) rfl rfl rfl rfl (by simp [Mc.push]) rfl0 w.procs w.glob) (fun o => push _ (by omega) rfl rfl rfl rfl (by simp [Mc.push]) rfl0 w.procs w.glob) (fun o => ?_) (fun o => push _ (by omega) rfl rfl rfl rfl (by simp [Mc.push]) rfl0 w.procs w.glob) (fun o => ?_) (fun o => push _ (by omega) rfl rfl rfl rfl (by simp [Mc.push]) rfl0 w.procs w.glob) (fun o => ?_) (fun o => ?_) (fun o => ?_) (fun o => ?_) (fun o => ?_) (fun o => ?_) (fun o => ?_) (fun o => ?_) (fun o => ?_) hr.op
  · have hq := quoted_qt x.quote c.st
    exact push _ (by omega) rfl rfl rfl rfl (by simp) (RX.of hq.1) (WF.qt hq w.procs) w.glob
  · show StepR PP K HF ng (match c.glob.getD x.a.toNat none with | some v => _ | none => _)
    cases c.glob.getD x.a.toNat none with
    | none => trivial
    | some v => exact push _ (by omega) rfl rfl rfl rfl (by simp [Mc.push]) rfl0 w.procs w.glob
  · obtain ⟨a, a1, a2, a3, a4⟩ := hr.clo o
    refine push _ (by omega) rfl rfl rfl rfl (by simp) (RX.of rfl) (fun q hq => ?_) w.glob
    rcases List.mem_append.1 hq with hq | hq
    · exact w.procs q hq
    · simp at hq
      subst hq
      have ea : x.a.toNat = a := by omega
      rw [ea]
      have hPa : PP[a]? = some (PP[a]'a3) := List.getElem?_eq_getElem a3
      obtain ⟨z1, _⟩ := im.pro a _ hPa
      have e3 : PP.getD a ⟨0, []⟩ = PP[a]'a3 := by simp [List.getD, hPa]
      rw [e3] at a4
      refine ⟨_, _, hPa, a4, by rw [← g4], g5, ?_⟩
      show ar + (PP[a]'a3).args ≤ 2000 * (a : Int)
      omega
  · have hc := hr.cal o
    have m8 : movesI x = (x.a + 1, 1) := by unfold movesI; rw [if_neg (by omega), if_pos o]
    rw [m8] at s1 s4
    simp only at s1 s4
    have h4 := s4 (by omega) (by omega)
    refine call_wf im (h := h) (n := n) (a := x.a.toNat) (nx := c.next + 1) w.procs w.glob ?_ rfl (by omega) hw hs
    refine ⟨P, ar, g1, g2, ?_, g4, g5, g6⟩
    show (HF c.p)[c.next + 1]? = _
    rw [h4]
    congr 1
    omega
  · obtain ⟨a, a1, a2, a3⟩ := s3 (Or.inl o)
    have m9 : movesI x = (0, 0) := by unfold movesI; rw [if_neg (by omega), if_neg (by omega), if_neg (by omega), if_neg (by omega)]
    rw [m9] at a3
    have ea : x.a.toNat = a := by omega
    exact w.next hgg hw (nx := a) (h' := h) (by rw [a3]; simp) rfl (by show x.a.toNat = a; exact ea) rfl rfl hs rfl0 w.procs w.glob
  · obtain ⟨a, a1, a2, a3⟩ := s3 (Or.inr o)
    have m10 : movesI x = (1, 0) := by unfold movesI; rw [if_neg (by omega), if_neg (by omega), if_pos (by omega)]
    have ea : x.a.toNat = a := by omega
    rw [m10] at s1 a3
    simp only at s1 a3
    have hst : (c.stack.dropLast).length = n + (h - 1) := by rw [List.length_dropLast, hs]; omega
    show WF PP K HF ng (if Mc.top _ = .tru false then _ else _)
    split
    · refine w.next hgg hw (nx := a) (h' := h - 1) (by rw [a3]; congr 1; omega) rfl (by show x.a.toNat = a; exact ea) rfl rfl hst rfl0 w.procs w.glob
    · exact go _ (h - 1) (by omega) (by omega) (by rw [m10]; simp; omega) rfl rfl rfl rfl hst rfl0 w.procs w.glob
  · have m11 : movesI x = (1, 1) := by unfold movesI; rw [if_neg (by omega), if_neg (by omega), if_neg (by omega), if_pos (by omega)]
    show StepR PP K HF ng (match (spotsF c.st.rows c.env)[x.a.toNat]? with | some (r, q) => _ | none => _)
    cases (spotsF c.st.rows c.env)[x.a.toNat]? with
    | none => exact go _ h (by omega) (by omega) (by rw [m11]; simp) rfl rfl rfl rfl hs rfl0 w.procs w.glob
    | some rq =>
      have xx := RX.set c.st rq.1 rq.2 (Mc.top { c with left := c.left - 1, next := c.next + 1 })
      exact go _ h (by omega) (by omega) (by rw [m11]; simp) rfl rfl rfl rfl hs xx (fun q hq => (w.procs q hq).rx xx) w.glob
  · have m11 : movesI x = (1, 1) := by unfold movesI; rw [if_neg (by omega), if_neg (by omega), if_neg (by omega), if_pos (by omega)]
    show StepR PP K HF ng (match c.glob.getD x.a.toNat none with | some _ => _ | none => _)
    cases c.glob.getD x.a.toNat none with
    | none => trivial
    | some v => exact go _ h (by omega) (by omega) (by rw [m11]; simp) rfl rfl rfl rfl hs rfl0 w.procs (by simp [w.glob])
  · have m11 : movesI x = (1, 1) := by unfold movesI; rw [if_neg (by omega), if_neg (by omega), if_neg (by omega), if_pos (by omega)]
    exact go _ h (by omega) (by omega) (by rw [m11]; simp) rfl rfl rfl rfl hs rfl0 w.procs (by simp [w.glob])
  · have m14 : movesI x = (1, 0) := by unfold movesI; rw [if_neg (by omega), if_neg (by omega), if_pos (by omega)]
    rw [m14] at s1
    simp only at s1
    exact go _ (h - 1) (by omega) (by omega) (by rw [m14]; simp; omega) rfl rfl rfl rfl (by show (c.stack.dropLast).length = _; rw [List.length_dropLast, hs]; omega) rfl0 w.procs w.glob
  · have m15 : movesI x = (0, 0) := by unfold movesI; rw [if_neg (by omega), if_neg (by omega), if_neg (by omega), if_neg (by omega)]
    have hlast := s2 o
    rw [m15] at hlast
    simp only at hlast
    rcases hw.last with ⟨e1, e2⟩ | ⟨l', pl, m, k, e1, e2, e3, e4⟩
    · rw [leave_nil (d := { c with left := c.left - 1, next := c.next + 1 }) e1]
      rw [e1] at hlast
      simp at hlast
      exact ⟨e1, List.eq_nil_of_length_eq_zero (by show c.stack.length = 0; omega), w.procs, w.glob⟩
    · obtain ⟨p, nn, e⟩ := pl
      rw [leave_snoc (d := { c with left := c.left - 1, next := c.next + 1 }) e1]
      rw [e1] at hlast
      simp at hlast
      refine ⟨⟨k + 1, m, e4, e3, ?_⟩, w.procs, w.glob⟩
      show c.stack.length = m + (k + 1)
      omega
end
section
set_option linter.unusedVariables false
set_option linter.unusedSimpArgs false
open Go.Proofs.YthikdpclifeonaaGreatDoor

/-- No more than one value more; no more wait than may. -/
def Bd (c d : Mc) : Prop := d.stack.length ≤ c.stack.length + 1 ∧ (c.calls.length ≤ 200 → d.calls.length ≤ 200)
theorem Bd.of {c d : Mc} (h1 : d.stack.length ≤ c.stack.length + 1) (h2 : d.calls = c.calls) : Bd c d := ⟨h1, by rw [h2]; exact id⟩
theorem call_bd (PP : List Pro) (n : Nat) (c : Mc) : Bd c (callM PP n c).2 := by
  have ht : ∀ k, (c.stack.take k).length ≤ c.stack.length + 1 := fun k => by rw [List.length_take]; omega
  have ht1 : ∀ k v, (c.stack.take k ++ [v]).length ≤ c.stack.length + 1 := fun k v => by simp; omega
  unfold callM
  simp only
  cases c.stack.getD (c.stack.length - n - 1) .nil with
  | prim p =>
    simp only
    cases primF p (c.stack.drop (c.stack.length - n - 1 + 1)) c.st with
    | mk r s =>
      cases r with
      | ok v => exact Bd.of (ht1 _ v) rfl
      | bad h => exact Bd.of (ht _) rfl
  | proc i =>
    simp only
    cases c.st.procs[i]? with
    | none => exact Bd.of (ht _) rfl
    | some q =>
      simp only
      split
      · split
        · rename_i hc
          cases c.stack.drop (c.stack.length - n - 1 + 1) with
          | nil => exact ⟨ht _, fun _ => by simp; omega⟩
          | cons a t => exact ⟨ht _, fun _ => by simp; omega⟩
        · exact Bd.of (ht _) rfl
      · exact Bd.of (ht _) rfl
  | num n => exact Bd.of (ht _) rfl
  | tru b => exact Bd.of (ht _) rfl
  | sym s => exact Bd.of (ht _) rfl
  | nil => exact Bd.of (ht _) rfl
  | pair i => exact Bd.of (ht _) rfl
theorem ins_bd (PP : List Pro) (x : In) (c : Mc) (hx : 1 ≤ x.op ∧ x.op ≤ 15) : Bd c (insM PP x c).2 := by
  have hp : ∀ v, Bd c (c.push v) := fun v => Bd.of (by simp [Mc.push]) rfl
  have h0 : Bd c c := Bd.of (by omega) rfl
  have hpop : Bd c c.pop := Bd.of (by simp [Mc.pop]; omega) rfl
  refine ins_cases2 (fun r => Bd c r.2) PP x c (fun _ => hp _) (fun _ => hp _) (fun _ => Bd.of (by simp) rfl) (fun _ => hp _) (fun _ => ?_) (fun _ => hp _) (fun _ => Bd.of (by simp) rfl) (fun _ => call_bd _ _ _) (fun _ => Bd.of (by simp) rfl) (fun _ => ?_) (fun _ => ?_) (fun _ => ?_) (fun _ => Bd.of (by simp) rfl) (fun _ => hpop) (fun _ => ?_) hx
  · cases c.glob.getD x.a.toNat none with
    | none => exact h0
    | some v => exact hp v
  · show Bd c (if c.top = .tru false then { c.pop with next := x.a.toNat } else c.pop)
    split
    · exact Bd.of (by simp [Mc.pop]; omega) rfl
    · exact hpop
  · cases (spotsF c.st.rows c.env)[x.a.toNat]? with
    | none => exact h0
    | some p => exact Bd.of (by simp) rfl
  · cases c.glob.getD x.a.toNat none with
    | none => exact h0
    | some v => exact Bd.of (by simp) rfl
  · unfold leaveM
    cases c.calls.getLast? with
    | none => exact h0
    | some p => exact ⟨by simp, fun h => by simp; omega⟩
/-- What a step leaves of the bounds. -/
theorem step_bd {PP : List Pro} {c : Mc} (hl : c.left ≠ 0) (hx : 1 ≤ (nextM PP c).op ∧ (nextM PP c).op ≤ 15) : (stepM PP c).2.left + 1 = c.left ∧ ((stepM PP c).2.stack.length + (stepM PP c).2.left ≤ c.stack.length + c.left) ∧ (c.calls.length ≤ 200 → (stepM PP c).2.calls.length ≤ 200) := by
  unfold stepM
  rw [if_neg hl]
  obtain ⟨h1, h2⟩ := ins_bd PP (nextM PP c) { c with left := c.left - 1, next := c.next + 1 } hx
  have h3 := (ins_left PP (nextM PP c) { c with left := c.left - 1, next := c.next + 1 }).1
  have h3' : (insM PP (nextM PP c) { c with left := c.left - 1, next := c.next + 1 }).2.left = c.left - 1 := h3
  have h1' : (insM PP (nextM PP c) { c with left := c.left - 1, next := c.next + 1 }).2.stack.length ≤ c.stack.length + 1 := h1
  exact ⟨by omega, by omega, h2⟩
end
end Go.Proofs.YthikdpclifeonaaGreatDoor.V
