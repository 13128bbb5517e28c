/- Chapter 11, plainly: values, a store, primitives; the machine; with more instructions no less. -/
import Derived.Test.YthikdpclifeonaaGreatDoorK01
import Derived.Lib.ItoaNum
namespace Go.Proofs.YthikdpclifeonaaGreatDoor
set_option linter.unusedVariables false
set_option linter.unusedSimpArgs false

/-- Values: pairs and procedures by the number of their making. -/
inductive Val where
  | num (n : Int)
  | tru (b : Bool)
  | sym (s : ByteArray)
  | nil
  | pair (i : Nat)
  | prim (s : ByteArray)
  | proc (i : Nat)
deriving DecidableEq
/-- A pair: its two values, or data that it and the pairs behind it are to be made of. -/
inductive PairS where
  | made (a b : Val)
  | unmade (d : Dat) (ds : List Dat)
/-- A procedure: its number, the rows of parameters around it (the nearest first). -/
structure ProcS where
  proto : Nat
  env : List Nat
/-- The store. -/
structure St where
  out : List (List UInt8)
  pairs : List PairS
  procs : List ProcS
  rows : List (List Val)
/-- What is told: a value, or how the run ends. -/
inductive Res (α : Type) where
  | ok (a : α)
  | bad (how : Int)

/-- One thing behind the other, as long as none ends the run. -/
def bindR {α β : Type} (r : Res α × St) (k : α → St → Res β × St) : Res β × St :=
  match r with
  | (.bad h, σ) => (.bad h, σ)
  | (.ok v, σ) => k v σ
def listedF (ds : List Dat) (σ : St) : Val × St :=
  match ds with
  | [] => (.nil, σ)
  | d :: r => (.pair σ.pairs.length, { σ with pairs := σ.pairs ++ [.unmade d r] })
def quotedF (d : Dat) (σ : St) : Val × St :=
  if d.kind = 1 then (.num d.n, σ)
  else if d.kind = 2 then (.tru (decide (d.n = 1)), σ)
  else if d.kind = 3 then (.sym d.name, σ)
  else listedF d.kids σ
/-- The two values of pair i. -/
def valuesF (i : Nat) (σ : St) : (Val × Val) × St :=
  match σ.pairs[i]? with
  | some (.made a b) => ((a, b), σ)
  | some (.unmade d r) =>
    let (a, σ1) := quotedF d σ
    let (b, σ2) := listedF r σ1
    ((a, b), { σ2 with pairs := σ2.pairs.set i (.made a b) })
  | none => ((.nil, .nil), σ)
/-- A text being written, its nodes counted. -/
structure Wrt where
  txt : List UInt8
  nodes : Nat
def Wrt.put (w : Wrt) (s : List UInt8) : Wrt := { w with txt := w.txt ++ s }
mutual
/-- How a value is written. -/
def showF : Nat → Val → Wrt → St → Res Wrt × St
  | 0, _, _, σ => (.bad 7, σ)
  | f + 1, v, w, σ =>
    if 300 < w.nodes + 1 then (.bad 7, σ)
    else
      let w := { w with nodes := w.nodes + 1 }
      match v with
      | .num n => (.ok (w.put (Lib.itoa n)), σ)
      | .tru b => (.ok (w.put [35, if b then 116 else 102]), σ)
      | .sym s => (.ok (w.put s.data.toList), σ)
      | .nil => (.ok (w.put [40, 41]), σ)
      | .prim _ => (.ok (w.put [35, 112]), σ)
      | .proc _ => (.ok (w.put [35, 112]), σ)
      | .pair i =>
        let ((a, b), σ1) := valuesF i σ
        match showF f a (w.put [40]) σ1 with
        | (.bad h, σ2) => (.bad h, σ2)
        | (.ok w2, σ2) => tailF f b w2 σ2
/-- The rest of a list. -/
def tailF : Nat → Val → Wrt → St → Res Wrt × St
  | 0, _, _, σ => (.bad 7, σ)
  | f + 1, v, w, σ =>
    match v with
    | .pair i =>
      let ((a, b), σ1) := valuesF i σ
      match showF f a (w.put [32]) σ1 with
      | (.bad h, σ2) => (.bad h, σ2)
      | (.ok w2, σ2) => tailF f b w2 σ2
    | .nil => (.ok (w.put [41]), σ)
    | v =>
      match showF f v (w.put [32, 46, 32]) σ with
      | (.bad h, σ2) => (.bad h, σ2)
      | (.ok w2, σ2) => (.ok (w2.put [41]), σ2)
end
/-- A value is put out. -/
def putF (v : Val) (σ : St) : Res Val × St :=
  if σ.out.length < 200 then
    match showF 1000 v ⟨[], 0⟩ σ with
    | (.bad h, σ1) => (.bad h, σ1)
    | (.ok w, σ1) => (.ok v, { σ1 with out := σ1.out ++ [w.txt] })
  else (.bad 7, σ)
def inR (n : Int) : Bool := decide (-1000000000000000 ≤ n) && decide (n ≤ 1000000000000000)
def carB : ByteArray := ⟨#[99, 97, 114]⟩
def cdrB : ByteArray := ⟨#[99, 100, 114]⟩
def nullB : ByteArray := ⟨#[110, 117, 108, 108, 63]⟩
def pairQ : ByteArray := ⟨#[112, 97, 105, 114, 63]⟩
def eqQ : ByteArray := ⟨#[101, 113, 63]⟩
def ltB : ByteArray := ⟨#[60]⟩
def eqB : ByteArray := ⟨#[61]⟩
def addB : ByteArray := ⟨#[43]⟩
def subB : ByteArray := ⟨#[45]⟩
def consF : ByteArray := ⟨#[99, 111, 110, 115]⟩
def outF : ByteArray := ⟨#[111, 117, 116]⟩
def oneF (p : ByteArray) (v : Val) (σ : St) : Res Val × St :=
  if p = carB then
    match v with
    | .pair i => (.ok (valuesF i σ).1.1, (valuesF i σ).2)
    | _ => (.bad 4, σ)
  else if p = cdrB then
    match v with
    | .pair i => (.ok (valuesF i σ).1.2, (valuesF i σ).2)
    | _ => (.bad 4, σ)
  else if p = nullB then (.ok (.tru (decide (v = .nil))), σ)
  else if p = pairQ then (.ok (.tru (match v with | .pair _ => true | _ => false)), σ)
  else (.ok (.tru (decide (v = .tru false))), σ)
def sumF (n : Int) : Res Val := if inR n then .ok (.num n) else .bad 6
def numsF (p : ByteArray) (a b : Int) : Res Val :=
  if p = ltB then .ok (.tru (decide (a < b)))
  else if p = eqB then .ok (.tru (decide (a = b)))
  else if p = addB then sumF (a + b)
  else if p = subB then sumF (a - b)
  else sumF (a * b)
def twoF (p : ByteArray) (a b : Val) (σ : St) : Res Val × St :=
  if p = consF then (.ok (.pair σ.pairs.length), { σ with pairs := σ.pairs ++ [.made a b] })
  else if p = eqQ then (.ok (.tru (decide (a = b))), σ)
  else
    match a with
    | .num x =>
      match b with
      | .num y => (numsF p x y, σ)
      | _ => (.bad 4, σ)
    | _ => (.bad 4, σ)
/-- A primitive is called. -/
def primF (p : ByteArray) (vs : List Val) (σ : St) : Res Val × St :=
  if (vs.length : Int) = argsB p then
    match vs with
    | [a] => if p = outF then putF a σ else oneF p a σ
    | [a, b] => twoF p a b σ
    | _ => (.bad 5, σ)
  else (.bad 5, σ)
/-- The parameters around, the nearest first: the row and the place in it. -/
def spotsF (rows : List (List Val)) : List Nat → List (Nat × Nat)
  | [] => []
  | r :: e => (List.range (rows.getD r []).length).reverse.map (fun q => (r, q)) ++ spotsF rows e
def lookF (rows : List (List Val)) (e : List Nat) (i : Nat) : Option Val :=
  match (spotsF rows e)[i]? with
  | some (r, q) => (rows.getD r [])[q]?
  | none => none
/-- No less was put out. -/
def Ext (σ σ' : St) : Prop := ∃ l, σ'.out = σ.out ++ l
theorem Ext.refl (σ : St) : Ext σ σ := ⟨[], by simp⟩
theorem Ext.trans {a b c : St} (h : Ext a b) (k : Ext b c) : Ext a c := by
  obtain ⟨l, h2⟩ := h
  obtain ⟨r, k2⟩ := k
  exact ⟨l ++ r, by rw [k2, h2, List.append_assoc]⟩
/-- Texts as they were. -/
def Sm (σ σ' : St) : Prop := σ'.out = σ.out
theorem Sm.ext {σ σ' : St} (h : Sm σ σ') : Ext σ σ' := ⟨[], by rw [show σ'.out = σ.out from h]; simp⟩
theorem Sm.trans {a b c : St} (h : Sm a b) (k : Sm b c) : Sm a c := Eq.trans k h
theorem listed_same (ds : List Dat) (σ : St) : Sm σ (listedF ds σ).2 := by
  cases ds <;> exact rfl
theorem quoted_same (d : Dat) (σ : St) : Sm σ (quotedF d σ).2 := by
  unfold quotedF
  split
  · exact rfl
  split
  · exact rfl
  split
  · exact rfl
  exact listed_same _ _
theorem values_same (i : Nat) (σ : St) : Sm σ (valuesF i σ).2 := by
  unfold valuesF
  cases h : σ.pairs[i]? with
  | none => exact rfl
  | some p =>
    cases p with
    | made a b => exact rfl
    | unmade d r =>
      exact (quoted_same d σ).trans (listed_same r (quotedF d σ).2)
theorem show_same : ∀ (f : Nat), (∀ v w σ, Sm σ (showF f v w σ).2) ∧ (∀ v w σ, Sm σ (tailF f v w σ).2)
  | 0 => ⟨fun _ _ _ => by simp [showF, Sm], fun _ _ _ => by simp [tailF, Sm]⟩
  | f + 1 => by
    obtain ⟨ih1, ih2⟩ := show_same f
    constructor
    · intro v w σ
      rw [showF]
      split
      · exact rfl
      cases v with
      | num n => exact rfl
      | tru b => exact rfl
      | sym s => exact rfl
      | nil => exact rfl
      | prim s => exact rfl
      | proc i => exact rfl
      | pair i =>
        have hv := values_same i σ
        have h1 := ih1 (valuesF i σ).1.1 (Wrt.put { w with nodes := w.nodes + 1 } [40]) (valuesF i σ).2
        simp only
        cases h : showF f (valuesF i σ).1.1 (Wrt.put { w with nodes := w.nodes + 1 } [40]) (valuesF i σ).2 with
        | mk r s =>
          rw [h] at h1
          cases r with
          | bad h => exact hv.trans h1
          | ok w2 => exact (hv.trans h1).trans (ih2 (valuesF i σ).1.2 w2 s)
    · intro v w σ
      cases v with
      | pair i =>
        have hv := values_same i σ
        have h1 := ih1 (valuesF i σ).1.1 (Wrt.put w [32]) (valuesF i σ).2
        simp only [tailF]
        cases h : showF f (valuesF i σ).1.1 (Wrt.put w [32]) (valuesF i σ).2 with
        | mk r s =>
          rw [h] at h1
          cases r with
          | bad h => exact hv.trans h1
          | ok w2 => exact (hv.trans h1).trans (ih2 (valuesF i σ).1.2 w2 s)
      | nil => simp [tailF, Sm]
      | num n =>
        have h1 := ih1 (Val.num n) (Wrt.put w [32, 46, 32]) σ
        simp only [tailF]
        cases h : showF f (Val.num n) (Wrt.put w [32, 46, 32]) σ with
        | mk r s =>
          rw [h] at h1
          cases r <;> exact h1
      | tru n =>
        have h1 := ih1 (Val.tru n) (Wrt.put w [32, 46, 32]) σ
        simp only [tailF]
        cases h : showF f (Val.tru n) (Wrt.put w [32, 46, 32]) σ with
        | mk r s =>
          rw [h] at h1
          cases r <;> exact h1
      | sym n =>
        have h1 := ih1 (Val.sym n) (Wrt.put w [32, 46, 32]) σ
        simp only [tailF]
        cases h : showF f (Val.sym n) (Wrt.put w [32, 46, 32]) σ with
        | mk r s =>
          rw [h] at h1
          cases r <;> exact h1
      | prim n =>
        have h1 := ih1 (Val.prim n) (Wrt.put w [32, 46, 32]) σ
        simp only [tailF]
        cases h : showF f (Val.prim n) (Wrt.put w [32, 46, 32]) σ with
        | mk r s =>
          rw [h] at h1
          cases r <;> exact h1
      | proc n =>
        have h1 := ih1 (Val.proc n) (Wrt.put w [32, 46, 32]) σ
        simp only [tailF]
        cases h : showF f (Val.proc n) (Wrt.put w [32, 46, 32]) σ with
        | mk r s =>
          rw [h] at h1
          cases r <;> exact h1
theorem put_ext (v : Val) (σ : St) : Ext σ (putF v σ).2 := by
  unfold putF
  split
  · have h1 := (show_same 1000).1 v ⟨[], 0⟩ σ
    cases h : showF 1000 v ⟨[], 0⟩ σ with
    | mk r s =>
      rw [h] at h1
      cases r with
      | bad h => exact h1.ext
      | ok w =>
        have h2 : s.out = σ.out := h1
        exact ⟨[w.txt], by show s.out ++ [w.txt] = _; rw [h2]⟩
  · exact Ext.refl σ
theorem one_ext (p : ByteArray) (v : Val) (σ : St) : Ext σ (oneF p v σ).2 := by
  unfold oneF
  split
  · cases v <;> first | exact Ext.refl σ | exact Sm.ext (values_same _ σ)
  split
  · cases v <;> first | exact Ext.refl σ | exact Sm.ext (values_same _ σ)
  split
  · exact Ext.refl σ
  split
  · exact Ext.refl σ
  exact Ext.refl σ
theorem two_ext (p : ByteArray) (a b : Val) (σ : St) : Ext σ (twoF p a b σ).2 := by
  unfold twoF
  split
  · exact ⟨[], by simp⟩
  split
  · exact Ext.refl σ
  cases a <;> first | exact Ext.refl σ | (cases b <;> exact Ext.refl σ)
theorem prim_ext (p : ByteArray) (vs : List Val) (σ : St) : Ext σ (primF p vs σ).2 := by
  unfold primF
  split
  · match vs with
    | [] => exact Ext.refl σ
    | [a] =>
      simp only
      split
      · exact put_ext a σ
      · exact one_ext p a σ
    | [a, b] => exact two_ext p a b σ
    | _ :: _ :: _ :: _ => exact Ext.refl σ
  · exact Ext.refl σ
theorem show_bad : ∀ (f : Nat), (∀ v w σ h s, showF f v w σ = (.bad h, s) → h = 7) ∧ (∀ v w σ h s, tailF f v w σ = (.bad h, s) → h = 7)
  | 0 => ⟨fun _ _ _ _ _ e => by rw [showF] at e; cases e; rfl, fun _ _ _ _ _ e => by rw [tailF] at e; cases e; rfl⟩
  | f + 1 => by
    obtain ⟨ih1, ih2⟩ := show_bad f
    constructor
    · intro v w σ h s e
      rw [showF] at e
      by_cases hn : 300 < w.nodes + 1
      · rw [if_pos hn] at e
        cases e
        rfl
      rw [if_neg hn] at e
      cases v with
      | num n => cases e
      | tru b => cases e
      | sym s => cases e
      | nil => cases e
      | prim s => cases e
      | proc i => cases e
      | pair i =>
        simp only at e
        cases h : showF f (valuesF i σ).1.1 (Wrt.put { w with nodes := w.nodes + 1 } [40]) (valuesF i σ).2 with
        | mk r t =>
          rw [h] at e
          cases r with
          | bad q => cases e; exact ih1 _ _ _ _ _ h
          | ok w2 => exact ih2 _ _ _ _ _ e
    · intro v w σ h s e
      cases v with
      | pair i =>
        simp only [tailF] at e
        cases h : showF f (valuesF i σ).1.1 (Wrt.put w [32]) (valuesF i σ).2 with
        | mk r t =>
          rw [h] at e
          cases r with
          | bad q => cases e; exact ih1 _ _ _ _ _ h
          | ok w2 => exact ih2 _ _ _ _ _ e
      | nil => simp only [tailF] at e; cases e
      | num n =>
        simp only [tailF] at e
        cases h : showF f (Val.num n) (Wrt.put w [32, 46, 32]) σ with
        | mk r t =>
          rw [h] at e
          cases r with
          | bad q => cases e; exact ih1 _ _ _ _ _ h
          | ok w2 => cases e
      | tru n =>
        simp only [tailF] at e
        cases h : showF f (Val.tru n) (Wrt.put w [32, 46, 32]) σ with
        | mk r t =>
          rw [h] at e
          cases r with
          | bad q => cases e; exact ih1 _ _ _ _ _ h
          | ok w2 => cases e
      | sym n =>
        simp only [tailF] at e
        cases h : showF f (Val.sym n) (Wrt.put w [32, 46, 32]) σ with
        | mk r t =>
          rw [h] at e
          cases r with
          | bad q => cases e; exact ih1 _ _ _ _ _ h
          | ok w2 => cases e
      | prim n =>
        simp only [tailF] at e
        cases h : showF f (Val.prim n) (Wrt.put w [32, 46, 32]) σ with
        | mk r t =>
          rw [h] at e
          cases r with
          | bad q => cases e; exact ih1 _ _ _ _ _ h
          | ok w2 => cases e
      | proc n =>
        simp only [tailF] at e
        cases h : showF f (Val.proc n) (Wrt.put w [32, 46, 32]) σ with
        | mk r t =>
          rw [h] at e
          cases r with
          | bad q => cases e; exact ih1 _ _ _ _ _ h
          | ok w2 => cases e
theorem put_no2 (v : Val) (σ s : St) : putF v σ ≠ (.bad 2, s) := by
  unfold putF
  intro e
  split at e
  · cases h : showF 1000 v ⟨[], 0⟩ σ with
    | mk r t =>
      rw [h] at e
      cases r with
      | bad q =>
        have := (show_bad 1000).1 _ _ _ _ _ h
        subst this
        cases e
      | ok w => cases e
  · cases e
theorem one_no2 (p : ByteArray) (v : Val) (σ s : St) : oneF p v σ ≠ (.bad 2, s) := by
  unfold oneF
  intro e
  split at e
  · cases v <;> cases e
  split at e
  · cases v <;> cases e
  split at e
  · cases e
  split at e
  · cases e
  cases e
theorem sum_no2 (n : Int) : sumF n ≠ .bad 2 := by
  unfold sumF
  split <;> simp
theorem nums_no2 (p : ByteArray) (a b : Int) : numsF p a b ≠ .bad 2 := by
  unfold numsF
  split
  · simp
  split
  · simp
  split
  · exact sum_no2 _
  split
  · exact sum_no2 _
  exact sum_no2 _
theorem two_no2 (p : ByteArray) (a b : Val) (σ s : St) : twoF p a b σ ≠ (.bad 2, s) := by
  unfold twoF
  intro e
  split at e
  · cases e
  split at e
  · cases e
  cases a with
  | num x =>
    cases b with
    | num y => exact nums_no2 p x y (congrArg Prod.fst e)
    | _ => cases e
  | _ => cases e
theorem prim_no2 (p : ByteArray) (vs : List Val) (σ s : St) : primF p vs σ ≠ (.bad 2, s) := by
  unfold primF
  intro e
  split at e
  · match vs, e with
    | [], e => cases e
    | [a], e =>
      simp only at e
      split at e
      · exact put_no2 a σ s e
      · exact one_no2 p a σ s e
    | [a, b], e => exact two_no2 p a b σ s e
    | _ :: _ :: _ :: _, e => cases e
  · cases e
/-- The machine: the store, what is left, the stack (the last one on top), the procedure at work, where it goes on, what is around, who waits (the last one last), the globals. -/
structure Mc where
  st : St
  left : Nat
  stack : List Val
  p : Nat
  next : Nat
  env : List Nat
  calls : List (Nat × Nat × List Nat)
  glob : List (Option Val)
def ins0 : In := insO 0
def pro0 : Pro := ⟨0, []⟩
def Mc.push (c : Mc) (v : Val) : Mc := { c with stack := c.stack ++ [v] }
def Mc.top (c : Mc) : Val := c.stack.getLast?.getD .nil
def Mc.pop (c : Mc) : Mc := { c with stack := c.stack.dropLast }
/-- What lies below n arguments is called with these. -/
def callM (PP : List Pro) (n : Nat) (c : Mc) : Res Bool × Mc :=
  let k := c.stack.length - n - 1
  let args := c.stack.drop (k + 1)
  let c1 := { c with stack := c.stack.take k }
  match c.stack.getD k .nil with
  | .prim p =>
    match primF p args c.st with
    | (.ok v, s) => (.ok true, { c1 with st := s, stack := c1.stack ++ [v] })
    | (.bad h, s) => (.bad h, { c1 with st := s })
  | .proc i =>
    match c.st.procs[i]? with
    | none => (.bad 4, c1)
    | some q =>
      if (n : Int) = (PP.getD q.proto pro0).args then
        if c.calls.length < 200 then
          match args with
          | [] => (.ok true, { c1 with calls := c.calls ++ [(c.p, c.next, c.env)], p := q.proto, next := 0, env := q.env })
          | a :: t => (.ok true, { c1 with calls := c.calls ++ [(c.p, c.next, c.env)], p := q.proto, next := 0, env := c.st.rows.length :: q.env, st := { c.st with rows := c.st.rows ++ [a :: t] } })
        else (.bad 7, c1)
      else (.bad 5, c1)
  | _ => (.bad 4, c1)
def leaveM (c : Mc) : Res Bool × Mc :=
  match c.calls.getLast? with
  | none => (.ok false, c)
  | some (p, n, e) => (.ok true, { c with p := p, next := n, env := e, calls := c.calls.dropLast })
/-- What an instruction does. -/
def insM (PP : List Pro) (x : In) (c : Mc) : Res Bool × Mc :=
  if x.op = 1 then (.ok true, c.push (.num x.n))
  else if x.op = 2 then (.ok true, c.push (.tru (decide (x.n = 1))))
  else if x.op = 3 then (.ok true, { c with st := (quotedF x.quote c.st).2, stack := c.stack ++ [(quotedF x.quote c.st).1] })
  else if x.op = 4 then (.ok true, c.push ((lookF c.st.rows c.env x.a.toNat).getD .nil))
  else if x.op = 5 then
    match c.glob.getD x.a.toNat none with
    | some v => (.ok true, c.push v)
    | none => (.bad 3, c)
  else if x.op = 6 then (.ok true, c.push (.prim x.own))
  else if x.op = 7 then (.ok true, { c with st := { c.st with procs := c.st.procs ++ [⟨x.a.toNat, c.env⟩] }, stack := c.stack ++ [.proc c.st.procs.length] })
  else if x.op = 8 then callM PP x.a.toNat c
  else if x.op = 9 then (.ok true, { c with next := x.a.toNat })
  else if x.op = 10 then (.ok true, if c.top = .tru false then { c.pop with next := x.a.toNat } else c.pop)
  else if x.op = 11 then
    match (spotsF c.st.rows c.env)[x.a.toNat]? with
    | some (r, q) => (.ok true, { c with st := { c.st with rows := c.st.rows.set r ((c.st.rows.getD r []).set q c.top) } })
    | none => (.ok true, c)
  else if x.op = 12 then
    match c.glob.getD x.a.toNat none with
    | some _ => (.ok true, { c with glob := c.glob.set x.a.toNat (some c.top) })
    | none => (.bad 3, c)
  else if x.op = 13 then (.ok true, { c with glob := c.glob.set x.a.toNat (some c.top) })
  else if x.op = 14 then (.ok true, c.pop)
  else if x.op = 15 then leaveM c
  else (.ok true, c)
/-- The next instruction. -/
def nextM (PP : List Pro) (c : Mc) : In := (PP.getD c.p pro0).code.getD c.next ins0
def stepM (PP : List Pro) (c : Mc) : Res Bool × Mc :=
  if c.left = 0 then (.bad 2, c)
  else insM PP (nextM PP c) { c with left := c.left - 1, next := c.next + 1 }
def loopM (PP : List Pro) : Nat → Mc → Res Unit × Mc
  | 0, c => (.bad 2, c)
  | f + 1, c =>
    match stepM PP c with
    | (.bad h, d) => (.bad h, d)
    | (.ok false, d) => (.ok (), d)
    | (.ok true, d) => loopM PP f d
/-- THE RUN OF AN IMAGE: how it ends, and the machine then. -/
def runM (PP : List Pro) : List Nat → Mc → Int × Mc
  | [], c => (1, c)
  | s :: r, c =>
    match loopM PP (c.left + 1) { c with p := s, next := 0, env := [] } with
    | (.bad h, d) => (h, d)
    | (.ok _, d) => runM PP r d
def moreM (k : Nat) (c : Mc) : Mc := { c with left := c.left + k }
theorem call_moreM (PP : List Pro) (n k : Nat) (c : Mc) : callM PP n (moreM k c) = ((callM PP n c).1, moreM k (callM PP n c).2) := by
  unfold callM
  simp only [moreM]
  cases c.stack.getD (c.stack.length - n - 1) .nil with
  | prim p =>
    simp only
    cases primF p (c.stack.drop (c.stack.length - n - 1 + 1)) c.st with
    | mk r s => cases r <;> rfl
  | proc i =>
    simp only
    cases c.st.procs[i]? with
    | none => rfl
    | some q =>
      simp only
      by_cases z1 : (n : Int) = (PP.getD q.proto pro0).args
      · rw [if_pos z1, if_pos z1]
        by_cases z2 : c.calls.length < 200
        · simp only [z2, if_true]
          cases c.stack.drop (c.stack.length - n - 1 + 1) <;> rfl
        · simp only [z2, if_false]
      · rw [if_neg z1, if_neg z1]
  | num n => rfl
  | tru b => rfl
  | sym s => rfl
  | nil => rfl
  | pair i => rfl
theorem leave_moreM (k : Nat) (c : Mc) : leaveM (moreM k c) = ((leaveM c).1, moreM k (leaveM c).2) := by
  unfold leaveM
  simp only [moreM]
  cases c.calls.getLast? <;> rfl
theorem ins_moreM (PP : List Pro) (x : In) (k : Nat) (c : Mc) : insM PP x (moreM k c) = ((insM PP x c).1, moreM k (insM PP x c).2) := by
  unfold insM
  by_cases h1 : x.op = 1
  · rw [if_pos h1, if_pos h1]; rfl
  rw [if_neg h1, if_neg h1]
  by_cases h2 : x.op = 2
  · rw [if_pos h2, if_pos h2]; rfl
  rw [if_neg h2, if_neg h2]
  by_cases h3 : x.op = 3
  · rw [if_pos h3, if_pos h3]; rfl
  rw [if_neg h3, if_neg h3]
  by_cases h4 : x.op = 4
  · rw [if_pos h4, if_pos h4]; rfl
  rw [if_neg h4, if_neg h4]
  by_cases h5 : x.op = 5
  · rw [if_pos h5, if_pos h5]
    show (match c.glob.getD x.a.toNat none with | some v => _ | none => _) = _
    cases c.glob.getD x.a.toNat none <;> rfl
  rw [if_neg h5, if_neg h5]
  by_cases h6 : x.op = 6
  · rw [if_pos h6, if_pos h6]; rfl
  rw [if_neg h6, if_neg h6]
  by_cases h7 : x.op = 7
  · rw [if_pos h7, if_pos h7]; rfl
  rw [if_neg h7, if_neg h7]
  by_cases h8 : x.op = 8
  · rw [if_pos h8, if_pos h8]; exact call_moreM PP _ k c
  rw [if_neg h8, if_neg h8]
  by_cases h9 : x.op = 9
  · rw [if_pos h9, if_pos h9]; rfl
  rw [if_neg h9, if_neg h9]
  by_cases h10 : x.op = 10
  · rw [if_pos h10, if_pos h10]
    show ((Res.ok true : Res Bool), (if c.top = .tru false then _ else _)) = _
    by_cases z : c.top = .tru false
    · rw [if_pos z, if_pos z]; rfl
    · rw [if_neg z, if_neg z]; rfl
  rw [if_neg h10, if_neg h10]
  by_cases h11 : x.op = 11
  · rw [if_pos h11, if_pos h11]
    show (match (spotsF c.st.rows c.env)[x.a.toNat]? with | some (r, q) => _ | none => _) = _
    cases (spotsF c.st.rows c.env)[x.a.toNat]? <;> rfl
  rw [if_neg h11, if_neg h11]
  by_cases h12 : x.op = 12
  · rw [if_pos h12, if_pos h12]
    show (match c.glob.getD x.a.toNat none with | some v => _ | none => _) = _
    cases c.glob.getD x.a.toNat none <;> rfl
  rw [if_neg h12, if_neg h12]
  by_cases h13 : x.op = 13
  · rw [if_pos h13, if_pos h13]; rfl
  rw [if_neg h13, if_neg h13]
  by_cases h14 : x.op = 14
  · rw [if_pos h14, if_pos h14]; rfl
  rw [if_neg h14, if_neg h14]
  by_cases h15 : x.op = 15
  · rw [if_pos h15, if_pos h15]; exact leave_moreM k c
  rw [if_neg h15, if_neg h15]
theorem step_moreM (PP : List Pro) (k : Nat) (c : Mc) (h : c.left ≠ 0) : stepM PP (moreM k c) = ((stepM PP c).1, moreM k (stepM PP c).2) := by
  unfold stepM
  rw [if_neg h, if_neg (by show c.left + k ≠ 0; omega)]
  have e : ({ (moreM k c) with left := (moreM k c).left - 1, next := (moreM k c).next + 1 } : Mc) = moreM k { c with left := c.left - 1, next := c.next + 1 } := by
    simp only [moreM, Mc.mk.injEq, and_true, true_and]
    omega
  rw [e]
  exact ins_moreM PP _ k _
theorem call_left (PP : List Pro) (n : Nat) (c : Mc) : (callM PP n c).2.left = c.left ∧ Ext c.st (callM PP n c).2.st := by
  unfold callM
  simp only
  cases c.stack.getD (c.stack.length - n - 1) .nil with
  | prim p =>
    simp only
    have h := prim_ext p (c.stack.drop (c.stack.length - n - 1 + 1)) c.st
    cases hp : primF p (c.stack.drop (c.stack.length - n - 1 + 1)) c.st with
    | mk r s => rw [hp] at h; cases r <;> exact ⟨rfl, h⟩
  | proc i =>
    simp only
    cases c.st.procs[i]? with
    | none => exact ⟨rfl, Ext.refl _⟩
    | some q =>
      simp only
      split
      · split
        · cases c.stack.drop (c.stack.length - n - 1 + 1) <;> exact ⟨rfl, [], by simp⟩
        · exact ⟨rfl, Ext.refl _⟩
      · exact ⟨rfl, Ext.refl _⟩
  | num n => exact ⟨rfl, Ext.refl _⟩
  | tru b => exact ⟨rfl, Ext.refl _⟩
  | sym s => exact ⟨rfl, Ext.refl _⟩
  | nil => exact ⟨rfl, Ext.refl _⟩
  | pair i => exact ⟨rfl, Ext.refl _⟩
theorem ins_cases (P : Res Bool × Mc → Prop) (PP : List Pro) (x : In) (c : Mc)
    (g1 : x.op = 1 → P (.ok true, c.push (.num x.n)))
    (g2 : x.op = 2 → P (.ok true, c.push (.tru (decide (x.n = 1)))))
    (g3 : x.op = 3 → P (.ok true, { c with st := (quotedF x.quote c.st).2, stack := c.stack ++ [(quotedF x.quote c.st).1] }))
    (g4 : x.op = 4 → P (.ok true, c.push ((lookF c.st.rows c.env x.a.toNat).getD .nil)))
    (g5 : x.op = 5 → P (match c.glob.getD x.a.toNat none with | some v => (.ok true, c.push v) | none => (.bad 3, c)))
    (g6 : x.op = 6 → P (.ok true, c.push (.prim x.own)))
    (g7 : x.op = 7 → P (.ok true, { c with st := { c.st with procs := c.st.procs ++ [⟨x.a.toNat, c.env⟩] }, stack := c.stack ++ [.proc c.st.procs.length] }))
    (g8 : x.op = 8 → P (callM PP x.a.toNat c))
    (g9 : x.op = 9 → P (.ok true, { c with next := x.a.toNat }))
    (g10 : x.op = 10 → P (.ok true, if c.top = .tru false then { c.pop with next := x.a.toNat } else c.pop))
    (g11 : x.op = 11 → P (match (spotsF c.st.rows c.env)[x.a.toNat]? with | some (r, q) => (.ok true, { c with st := { c.st with rows := c.st.rows.set r ((c.st.rows.getD r []).set q c.top) } }) | none => (.ok true, c)))
    (g12 : x.op = 12 → P (match c.glob.getD x.a.toNat none with | some _ => (.ok true, { c with glob := c.glob.set x.a.toNat (some c.top) }) | none => (.bad 3, c)))
    (g13 : x.op = 13 → P (.ok true, { c with glob := c.glob.set x.a.toNat (some c.top) }))
    (g14 : x.op = 14 → P (.ok true, c.pop))
    (g15 : x.op = 15 → P (leaveM c))
    (g0 : P (.ok true, c)) : P (insM PP x c) := by
  unfold insM
  by_cases h1 : x.op = 1
  · rw [if_pos h1]; exact g1 h1
  rw [if_neg h1]
  by_cases h2 : x.op = 2
  · rw [if_pos h2]; exact g2 h2
  rw [if_neg h2]
  by_cases h3 : x.op = 3
  · rw [if_pos h3]; exact g3 h3
  rw [if_neg h3]
  by_cases h4 : x.op = 4
  · rw [if_pos h4]; exact g4 h4
  rw [if_neg h4]
  by_cases h5 : x.op = 5
  · rw [if_pos h5]; exact g5 h5
  rw [if_neg h5]
  by_cases h6 : x.op = 6
  · rw [if_pos h6]; exact g6 h6
  rw [if_neg h6]
  by_cases h7 : x.op = 7
  · rw [if_pos h7]; exact g7 h7
  rw [if_neg h7]
  by_cases h8 : x.op = 8
  · rw [if_pos h8]; exact g8 h8
  rw [if_neg h8]
  by_cases h9 : x.op = 9
  · rw [if_pos h9]; exact g9 h9
  rw [if_neg h9]
  by_cases h10 : x.op = 10
  · rw [if_pos h10]; exact g10 h10
  rw [if_neg h10]
  by_cases h11 : x.op = 11
  · rw [if_pos h11]; exact g11 h11
  rw [if_neg h11]
  by_cases h12 : x.op = 12
  · rw [if_pos h12]; exact g12 h12
  rw [if_neg h12]
  by_cases h13 : x.op = 13
  · rw [if_pos h13]; exact g13 h13
  rw [if_neg h13]
  by_cases h14 : x.op = 14
  · rw [if_pos h14]; exact g14 h14
  rw [if_neg h14]
  by_cases h15 : x.op = 15
  · rw [if_pos h15]; exact g15 h15
  rw [if_neg h15]
  exact g0
theorem ins_left (PP : List Pro) (x : In) (c : Mc) : (insM PP x c).2.left = c.left ∧ Ext c.st (insM PP x c).2.st := by
  refine ins_cases (fun r => r.2.left = c.left ∧ Ext c.st r.2.st) PP x c (fun _ => ⟨rfl, Ext.refl _⟩) (fun _ => ⟨rfl, Ext.refl _⟩) (fun _ => ⟨rfl, (quoted_same _ _).ext⟩) (fun _ => ⟨rfl, Ext.refl _⟩) (fun _ => ?_) (fun _ => ⟨rfl, Ext.refl _⟩) (fun _ => ⟨rfl, [], by simp⟩) (fun _ => call_left PP _ c) (fun _ => ⟨rfl, Ext.refl _⟩) (fun _ => ?_) (fun _ => ?_) (fun _ => ?_) (fun _ => ⟨rfl, Ext.refl _⟩) (fun _ => ⟨rfl, Ext.refl _⟩) (fun _ => ?_) ⟨rfl, Ext.refl _⟩
  · cases c.glob.getD x.a.toNat none <;> exact ⟨rfl, Ext.refl _⟩
  · by_cases z : c.top = .tru false
    · rw [if_pos z]; exact ⟨rfl, Ext.refl _⟩
    · rw [if_neg z]; exact ⟨rfl, Ext.refl _⟩
  · cases (spotsF c.st.rows c.env)[x.a.toNat]? with
    | none => exact ⟨rfl, Ext.refl _⟩
    | some p => exact ⟨rfl, [], by simp⟩
  · cases c.glob.getD x.a.toNat none <;> exact ⟨rfl, Ext.refl _⟩
  · unfold leaveM
    cases c.calls.getLast? <;> exact ⟨rfl, Ext.refl _⟩
theorem call_no2 (PP : List Pro) (n : Nat) (c d : Mc) : callM PP n c ≠ (.bad 2, d) := by
  unfold callM
  simp only
  intro e
  cases hv : c.stack.getD (c.stack.length - n - 1) .nil with
  | prim p =>
    rw [hv] at e
    simp only at e
    cases hp : primF p (c.stack.drop (c.stack.length - n - 1 + 1)) c.st with
    | mk r s =>
      rw [hp] at e
      cases r with
      | ok v => cases e
      | bad h =>
        simp only [Prod.mk.injEq, Res.bad.injEq] at e
        obtain ⟨rfl, _⟩ := e
        exact prim_no2 _ _ _ _ hp
  | proc i =>
    rw [hv] at e
    simp only at e
    cases hq : c.st.procs[i]? with
    | none => rw [hq] at e; cases e
    | some q =>
      rw [hq] at e
      simp only at e
      split at e
      · split at e
        · cases hd : c.stack.drop (c.stack.length - n - 1 + 1) with
          | nil => rw [hd] at e; cases e
          | cons a t => rw [hd] at e; cases e
        · cases e
      · cases e
  | num n => rw [hv] at e; cases e
  | tru b => rw [hv] at e; cases e
  | sym s => rw [hv] at e; cases e
  | nil => rw [hv] at e; cases e
  | pair i => rw [hv] at e; cases e
theorem ins_no2 (PP : List Pro) (x : In) (c d : Mc) : insM PP x c ≠ (.bad 2, d) := by
  refine ins_cases (fun r => r ≠ (.bad 2, d)) PP x c (fun _ e => by cases e) (fun _ e => by cases e) (fun _ e => by cases e) (fun _ e => by cases e) (fun _ e => ?_) (fun _ e => by cases e) (fun _ e => by cases e) (fun _ => call_no2 PP _ c d) (fun _ e => by cases e) (fun _ e => by cases e) (fun _ e => ?_) (fun _ e => ?_) (fun _ e => by cases e) (fun _ e => by cases e) (fun _ e => ?_) (fun e => by cases e)
  · cases hg : c.glob.getD x.a.toNat none with
    | none => rw [hg] at e; cases e
    | some v => rw [hg] at e; cases e
  · cases hs : (spotsF c.st.rows c.env)[x.a.toNat]? with
    | none => rw [hs] at e; cases e
    | some p => rw [hs] at e; cases e
  · cases hg : c.glob.getD x.a.toNat none with
    | none => rw [hg] at e; cases e
    | some v => rw [hg] at e; cases e
  · unfold leaveM at e
    cases hc : c.calls.getLast? with
    | none => rw [hc] at e; cases e
    | some p => rw [hc] at e; cases e
/-- With more instructions no less: a loop. -/
theorem loop_ext (PP : List Pro) : ∀ (f : Nat) (c : Mc), (loopM PP f c).2.left ≤ c.left ∧ Ext c.st (loopM PP f c).2.st
  | 0, c => ⟨Nat.le_refl _, Ext.refl _⟩
  | f + 1, c => by
    rw [loopM]
    have hs : (stepM PP c).2.left ≤ c.left ∧ Ext c.st (stepM PP c).2.st := by
      unfold stepM
      split
      · exact ⟨Nat.le_refl _, Ext.refl _⟩
      · obtain ⟨h1, h2⟩ := ins_left PP (nextM PP c) { c with left := c.left - 1, next := c.next + 1 }
        exact ⟨by rw [h1]; exact Nat.sub_le _ _, h2⟩
    cases hst : stepM PP c with
    | mk r d =>
      rw [hst] at hs
      cases r with
      | bad h => exact hs
      | ok b =>
        cases b with
        | false => exact hs
        | true =>
          obtain ⟨h1, h2⟩ := loop_ext PP f d
          exact ⟨Nat.le_trans h1 hs.1, hs.2.trans h2⟩
/-- What is told with more instructions. -/
def MrM {α : Type} (k : Nat) (r r' : Res α × Mc) : Prop :=
  match r with
  | (.bad 2, d) => ∃ l, r'.2.st.out = d.st.out ++ l
  | _ => r' = (r.1, moreM k r.2)
theorem loop_more (PP : List Pro) (k : Nat) : ∀ (f f' : Nat) (c : Mc), c.left < f → c.left + k < f' → (∃ d, loopM PP f c = (.bad 2, d) ∧ ∃ l, (loopM PP f' (moreM k c)).2.st.out = d.st.out ++ l) ∨ ((∀ d, loopM PP f c ≠ (.bad 2, d)) ∧ loopM PP f' (moreM k c) = ((loopM PP f c).1, moreM k (loopM PP f c).2))
  | 0, f', c, h, _ => by omega
  | f + 1, 0, c, _, h => by omega
  | f + 1, f' + 1, c, h1, h2 => by
    by_cases h0 : c.left = 0
    · have e : loopM PP (f + 1) c = (.bad 2, c) := by
        rw [loopM]
        have : stepM PP c = (.bad 2, c) := by unfold stepM; rw [if_pos h0]
        rw [this]
      refine Or.inl ⟨c, e, ?_⟩
      exact (loop_ext PP (f' + 1) (moreM k c)).2
    · have hm := step_moreM PP k c h0
      rw [loopM, loopM, hm]
      have hl : (stepM PP c).2.left = c.left - 1 := by
        unfold stepM
        rw [if_neg h0]
        exact (ins_left PP _ _).1
      have hno : ∀ d, stepM PP c ≠ (.bad 2, d) := by
        intro d
        unfold stepM
        rw [if_neg h0]
        exact ins_no2 PP _ _ _
      cases hst : stepM PP c with
      | mk r d =>
        rw [hst] at hl
        simp only at hl
        cases r with
        | bad h =>
          refine Or.inr ⟨fun d' e => ?_, rfl⟩
          simp only [Prod.mk.injEq, Res.bad.injEq] at e
          obtain ⟨rfl, _⟩ := e
          exact hno d hst
        | ok b =>
          cases b with
          | false => exact Or.inr ⟨fun d' e => by (cases e), rfl⟩
          | true => exact loop_more PP k f f' d (by omega) (by omega)
theorem run_ext (PP : List Pro) : ∀ (l : List Nat) (c : Mc), Ext c.st (runM PP l c).2.st
  | [], c => Ext.refl _
  | s :: r, c => by
    rw [runM]
    have h := (loop_ext PP (c.left + 1) { c with p := s, next := 0, env := [] }).2
    cases hl : loopM PP (c.left + 1) { c with p := s, next := 0, env := [] } with
    | mk q d =>
      rw [hl] at h
      cases q with
      | bad b => exact h
      | ok u => exact h.trans (run_ext PP r d)
/-- MORE INSTRUCTIONS, NO LESS. -/
theorem run_moreM (PP : List Pro) (k : Nat) : ∀ (l : List Nat) (c : Mc), (∃ r, (runM PP l (moreM k c)).2.st.out = (runM PP l c).2.st.out ++ r) ∧ ((runM PP l c).1 ≠ 2 → runM PP l (moreM k c) = ((runM PP l c).1, moreM k (runM PP l c).2))
  | [], c => ⟨⟨[], by simp [runM, moreM]⟩, fun _ => rfl⟩
  | s :: r, c => by
    rw [runM, runM]
    have e : ({ (moreM k c) with p := s, next := 0, env := [] } : Mc) = moreM k { c with p := s, next := 0, env := [] } := rfl
    rw [e]
    rcases loop_more PP k (c.left + 1) ((moreM k c).left + 1) { c with p := s, next := 0, env := [] } (by show c.left < c.left + 1; omega) (by show c.left + k < c.left + k + 1; omega) with ⟨d, h1, h2⟩ | ⟨h1, h2⟩
    · rw [h1]
      simp only
      refine ⟨?_, fun h => absurd rfl h⟩
      obtain ⟨l, hl⟩ := h2
      cases hq : loopM PP ((moreM k c).left + 1) (moreM k { c with p := s, next := 0, env := [] }) with
      | mk q d' =>
        rw [hq] at hl
        cases q with
        | bad b => exact ⟨l, hl⟩
        | ok u =>
          obtain ⟨l', hl'⟩ := run_ext PP r d'
          exact ⟨l ++ l', by rw [hl', hl, List.append_assoc]⟩
    · rw [h2]
      cases hq : loopM PP (c.left + 1) { c with p := s, next := 0, env := [] } with
      | mk q d' =>
        cases q with
        | bad b => exact ⟨⟨[], by simp [moreM]⟩, fun _ => rfl⟩
        | ok u => exact run_moreM PP k r d'
end Go.Proofs.YthikdpclifeonaaGreatDoor
