/- Chapter 7: what running an expression comes to, in plain words: values, a store, evaluation. Chapter 7: with more steps a run puts out no less, and comes to the same end: in plain words. Chapter 7: with more steps a run puts out no less, and comes to the same end: evaluation. -/
import Derived.Lib.ItoaNum
import Derived.Test.YthooljlikllnpaaDoorK01
namespace Go.Proofs.YthooljlikllnpaaDoor
section
set_option linter.unusedVariables false

/-- Values: pairs and procedures by the number of their making. -/
inductive Val where
  | num (n : Int)
  | tru (b : Bool)
  | sym (s : ByteArray)
  | nil
  | pair (i : Nat)
  | prim (s : ByteArray)
  | proc (i : Nat)
deriving DecidableEq
/-- A pair: its two values, or data that it and the pairs behind it are to be made of. -/
inductive PairS where
  | made (a b : Val)
  | unmade (d : Dat) (ds : List Dat)
/-- A procedure: how many parameters, its body, the rows of parameters around it (the nearest first). -/
structure ProcS where
  args : Int
  body : Cor
  env : List Nat
/-- The store. -/
structure St where
  out : List (List UInt8)
  left : Nat
  calls : Nat
  glob : List ((ByteArray × ByteArray) × Val)
  pairs : List PairS
  procs : List ProcS
  rows : List (List Val)
/-- What is told: a value, or how the run ends. -/
inductive Res (α : Type) where
  | ok (a : α)
  | bad (how : Int)

/-- One thing behind the other, as long as none ends the run. -/
def bindR {α β : Type} (r : Res α × St) (k : α → St → Res β × St) : Res β × St :=
  match r with
  | (.bad h, σ) => (.bad h, σ)
  | (.ok v, σ) => k v σ
def listedF (ds : List Dat) (σ : St) : Val × St :=
  match ds with
  | [] => (.nil, σ)
  | d :: r => (.pair σ.pairs.length, { σ with pairs := σ.pairs ++ [.unmade d r] })
def quotedF (d : Dat) (σ : St) : Val × St :=
  if d.kind = 1 then (.num d.n, σ)
  else if d.kind = 2 then (.tru (decide (d.n = 1)), σ)
  else if d.kind = 3 then (.sym d.name, σ)
  else listedF d.kids σ
/-- The two values of pair i. -/
def valuesF (i : Nat) (σ : St) : (Val × Val) × St :=
  match σ.pairs[i]? with
  | some (.made a b) => ((a, b), σ)
  | some (.unmade d r) =>
    let (a, σ1) := quotedF d σ
    let (b, σ2) := listedF r σ1
    ((a, b), { σ2 with pairs := σ2.pairs.set i (.made a b) })
  | none => ((.nil, .nil), σ)
/-- A text being written, its nodes counted. -/
structure Wrt where
  txt : List UInt8
  nodes : Nat
def Wrt.put (w : Wrt) (s : List UInt8) : Wrt := { w with txt := w.txt ++ s }
mutual
/-- How a value is written. -/
def showF : Nat → Val → Wrt → St → Res Wrt × St
  | 0, _, _, σ => (.bad 7, σ)
  | f + 1, v, w, σ =>
    if 300 < w.nodes + 1 then (.bad 7, σ)
    else
      let w := { w with nodes := w.nodes + 1 }
      match v with
      | .num n => (.ok (w.put (Lib.itoa n)), σ)
      | .tru b => (.ok (w.put [35, if b then 116 else 102]), σ)
      | .sym s => (.ok (w.put s.data.toList), σ)
      | .nil => (.ok (w.put [40, 41]), σ)
      | .prim _ => (.ok (w.put [35, 112]), σ)
      | .proc _ => (.ok (w.put [35, 112]), σ)
      | .pair i =>
        let ((a, b), σ1) := valuesF i σ
        match showF f a (w.put [40]) σ1 with
        | (.bad h, σ2) => (.bad h, σ2)
        | (.ok w2, σ2) => tailF f b w2 σ2
/-- The rest of a list. -/
def tailF : Nat → Val → Wrt → St → Res Wrt × St
  | 0, _, _, σ => (.bad 7, σ)
  | f + 1, v, w, σ =>
    match v with
    | .pair i =>
      let ((a, b), σ1) := valuesF i σ
      match showF f a (w.put [32]) σ1 with
      | (.bad h, σ2) => (.bad h, σ2)
      | (.ok w2, σ2) => tailF f b w2 σ2
    | .nil => (.ok (w.put [41]), σ)
    | v =>
      match showF f v (w.put [32, 46, 32]) σ with
      | (.bad h, σ2) => (.bad h, σ2)
      | (.ok w2, σ2) => (.ok (w2.put [41]), σ2)
end
/-- A value is put out. -/
def putF (v : Val) (σ : St) : Res Val × St :=
  if σ.out.length < 200 then
    match showF 1000 v ⟨[], 0⟩ σ with
    | (.bad h, σ1) => (.bad h, σ1)
    | (.ok w, σ1) => (.ok v, { σ1 with out := σ1.out ++ [w.txt] })
  else (.bad 7, σ)
def inR (n : Int) : Bool := decide (-1000000000000000 ≤ n) && decide (n ≤ 1000000000000000)
def carB : ByteArray := ⟨#[99, 97, 114]⟩
def cdrB : ByteArray := ⟨#[99, 100, 114]⟩
def nullB : ByteArray := ⟨#[110, 117, 108, 108, 63]⟩
def pairQ : ByteArray := ⟨#[112, 97, 105, 114, 63]⟩
def eqQ : ByteArray := ⟨#[101, 113, 63]⟩
def ltB : ByteArray := ⟨#[60]⟩
def eqB : ByteArray := ⟨#[61]⟩
def addB : ByteArray := ⟨#[43]⟩
def subB : ByteArray := ⟨#[45]⟩
def consF : ByteArray := ⟨#[99, 111, 110, 115]⟩
def outF : ByteArray := ⟨#[111, 117, 116]⟩
def oneF (p : ByteArray) (v : Val) (σ : St) : Res Val × St :=
  if p = carB then
    match v with
    | .pair i => (.ok (valuesF i σ).1.1, (valuesF i σ).2)
    | _ => (.bad 4, σ)
  else if p = cdrB then
    match v with
    | .pair i => (.ok (valuesF i σ).1.2, (valuesF i σ).2)
    | _ => (.bad 4, σ)
  else if p = nullB then (.ok (.tru (decide (v = .nil))), σ)
  else if p = pairQ then (.ok (.tru (match v with | .pair _ => true | _ => false)), σ)
  else (.ok (.tru (decide (v = .tru false))), σ)
def sumF (n : Int) : Res Val := if inR n then .ok (.num n) else .bad 6
def numsF (p : ByteArray) (a b : Int) : Res Val :=
  if p = ltB then .ok (.tru (decide (a < b)))
  else if p = eqB then .ok (.tru (decide (a = b)))
  else if p = addB then sumF (a + b)
  else if p = subB then sumF (a - b)
  else sumF (a * b)
def twoF (p : ByteArray) (a b : Val) (σ : St) : Res Val × St :=
  if p = consF then (.ok (.pair σ.pairs.length), { σ with pairs := σ.pairs ++ [.made a b] })
  else if p = eqQ then (.ok (.tru (decide (a = b))), σ)
  else
    match a with
    | .num x =>
      match b with
      | .num y => (numsF p x y, σ)
      | _ => (.bad 4, σ)
    | _ => (.bad 4, σ)
/-- A primitive is called. -/
def primF (p : ByteArray) (vs : List Val) (σ : St) : Res Val × St :=
  if (vs.length : Int) = argsB p then
    match vs with
    | [a] => if p = outF then putF a σ else oneF p a σ
    | [a, b] => twoF p a b σ
    | _ => (.bad 5, σ)
  else (.bad 5, σ)
/-- The parameters around, the nearest first: the row and the place in it. -/
def spotsF (rows : List (List Val)) : List Nat → List (Nat × Nat)
  | [] => []
  | r :: e => (List.range (rows.getD r []).length).reverse.map (fun q => (r, q)) ++ spotsF rows e
def lookF (rows : List (List Val)) (e : List Nat) (i : Nat) : Option Val :=
  match (spotsF rows e)[i]? with
  | some (r, q) => (rows.getD r [])[q]?
  | none => none
def globF (k : ByteArray × ByteArray) : List ((ByteArray × ByteArray) × Val) → Option Val
  | [] => none
  | (k', v) :: r => if k' = k then some v else globF k r
def setG (k : ByteArray × ByteArray) (v : Val) : List ((ByteArray × ByteArray) × Val) → List ((ByteArray × ByteArray) × Val)
  | [] => [(k, v)]
  | (k', v') :: r => if k' = k then (k, v) :: r else (k', v') :: setG k v r
/-- Values of a row of expressions. -/
def allF (g : Cor → St → Res Val × St) : List Cor → St → Res (List Val) × St
  | [], σ => (.ok [], σ)
  | c :: r, σ => bindR (g c σ) fun v σ1 => bindR (allF g r σ1) fun vs σ2 => (.ok (v :: vs), σ2)
/-- The last value of a row of expressions. -/
def lastF (g : Cor → St → Res Val × St) : List Cor → Val → St → Res Val × St
  | [], v, σ => (.ok v, σ)
  | c :: r, _, σ => bindR (g c σ) fun v σ1 => lastF g r v σ1
def cor0 : Cor := ⟨0, 0, 0, ⟨#[]⟩, ⟨#[]⟩, ⟨0, 0, ⟨#[]⟩, 0, 0, []⟩, []⟩
/-- The store, and what is around, as a procedure is called with r. -/
def withF (r : List Val) (σ : St) : St := match r with
  | [] => { σ with calls := σ.calls + 1 }
  | a :: t => { σ with calls := σ.calls + 1, rows := σ.rows ++ [a :: t] }
def withE (r : List Val) (e : List Nat) (σ : St) : List Nat := match r with
  | [] => e
  | _ :: _ => σ.rows.length :: e
/-- What the first of the values comes to, called with the others. -/
def callF (g : Cor → List Nat → St → Res Val × St) (vs : List Val) (σ : St) : Res Val × St :=
  match vs with
  | .prim p :: r => primF p r σ
  | .proc i :: r =>
    match σ.procs[i]? with
    | none => (.bad 4, σ)
    | some q =>
      if (r.length : Int) = q.args then
        if σ.calls < 200 then
          bindR (g q.body (withE r q.env σ) (withF r σ)) fun v σ2 => (.ok v, { σ2 with calls := σ2.calls - 1 })
        else (.bad 7, σ)
      else (.bad 5, σ)
  | _ => (.bad 4, σ)
/-- A value is given to what an expression names. -/
def setF (c : Cor) (v : Val) (e : List Nat) (σ : St) : Res Val × St :=
  if c.kind = 10 then
    match (spotsF σ.rows e)[c.index.toNat]? with
    | some (r, q) => (.ok v, { σ with rows := σ.rows.set r ((σ.rows.getD r []).set q v) })
    | none => (.ok v, σ)
  else if c.kind = 11 ∧ globF (c.lib, c.own) σ.glob = none then (.bad 3, σ)
  else (.ok v, { σ with glob := setG (c.lib, c.own) v σ.glob })
/-- The value of an expression, a step counted; g tells the values of what stands in it. -/
def evalB (g : Cor → List Nat → St → Res Val × St) (c : Cor) (e : List Nat) (σ : St) : Res Val × St :=
  if c.kind = 1 then (.ok (.num c.n), σ)
  else if c.kind = 2 then (.ok (.tru (decide (c.n = 1))), σ)
  else if c.kind = 3 then (.ok (quotedF c.quote σ).1, (quotedF c.quote σ).2)
  else if c.kind = 4 then (.ok ((lookF σ.rows e c.index.toNat).getD .nil), σ)
  else if c.kind = 5 then
    match globF (c.lib, c.own) σ.glob with
    | some v => (.ok v, σ)
    | none => (.bad 3, σ)
  else if c.kind = 6 then (.ok (.prim c.own), σ)
  else if c.kind = 7 then
    bindR (g (c.kids.getD 0 cor0) e σ) fun v σ1 => if v = .tru false then g (c.kids.getD 2 cor0) e σ1 else g (c.kids.getD 1 cor0) e σ1
  else if c.kind = 8 then (.ok (.proc σ.procs.length), { σ with procs := σ.procs ++ [⟨c.index, c.kids.getD 0 cor0, e⟩] })
  else if c.kind = 9 then
    bindR (allF (fun k => g k e) c.kids σ) fun vs σ1 => callF g vs σ1
  else if c.kind = 12 then lastF (fun k => g k e) c.kids .nil σ
  else
    bindR (g (c.kids.getD 0 cor0) e σ) fun v σ1 => setF c v e σ1
/-- THE VALUE OF AN EXPRESSION. -/
def evalF : Nat → Cor → List Nat → St → Res Val × St
  | 0, _, _, σ => (.bad 2, σ)
  | f + 1, c, e, σ => if σ.left = 0 then (.bad 2, σ) else evalB (evalF f) c e { σ with left := σ.left - 1 }
/-- THE RUN OF EXPRESSIONS, one behind the other: how it ends, and the store. -/
def runF : List Cor → St → Int × St
  | [], σ => (1, σ)
  | c :: r, σ =>
    match evalF (σ.left + 1) c [] σ with
    | (.bad h, σ1) => (h, σ1)
    | (.ok _, σ1) => runF r σ1
def st0 (left : Nat) : St := ⟨[], left, 0, [], [], [], []⟩
end
section
set_option linter.unusedVariables false

/-- The same store with more steps. -/
def more (m : Nat) (σ : St) : St := { σ with left := σ.left + m }
theorem listed_more (m : Nat) (ds : List Dat) (σ : St) : listedF ds (more m σ) = ((listedF ds σ).1, more m (listedF ds σ).2) := by
  cases ds <;> rfl
theorem quoted_more (m : Nat) (d : Dat) (σ : St) : quotedF d (more m σ) = ((quotedF d σ).1, more m (quotedF d σ).2) := by
  unfold quotedF
  split
  · rfl
  split
  · rfl
  split
  · rfl
  exact listed_more m d.kids σ
theorem values_more (m : Nat) (i : Nat) (σ : St) : valuesF i (more m σ) = ((valuesF i σ).1, more m (valuesF i σ).2) := by
  unfold valuesF
  have e : (more m σ).pairs = σ.pairs := rfl
  rw [e]
  cases h : σ.pairs[i]? with
  | none => rfl
  | some p =>
    cases p with
    | made a b => rfl
    | unmade d r =>
      simp only [quoted_more, listed_more]
      rfl
theorem show_more (m : Nat) : ∀ (f : Nat), (∀ v w σ, showF f v w (more m σ) = ((showF f v w σ).1, more m (showF f v w σ).2)) ∧ (∀ v w σ, tailF f v w (more m σ) = ((tailF f v w σ).1, more m (tailF f v w σ).2))
  | 0 => ⟨fun _ _ _ => by simp [showF], fun _ _ _ => by simp [tailF]⟩
  | f + 1 => by
    obtain ⟨ih1, ih2⟩ := show_more m f
    constructor
    · intro v w σ
      rw [showF, showF]
      split
      · rfl
      cases v with
      | num n => rfl
      | tru b => rfl
      | sym s => rfl
      | nil => rfl
      | prim s => rfl
      | proc i => rfl
      | pair i =>
        simp only [values_more]
        rw [ih1]
        cases h : showF f (valuesF i σ).1.1 (Wrt.put { w with nodes := w.nodes + 1 } [40]) (valuesF i σ).2 with
        | mk r s =>
          cases r with
          | bad h => rfl
          | ok w2 => exact ih2 _ _ _
    · intro v w σ
      cases v with
      | pair i =>
        simp only [tailF, values_more, ih1]
        cases h : showF f (valuesF i σ).1.1 (Wrt.put w [32]) (valuesF i σ).2 with
        | mk r s =>
          cases r with
          | bad h => rfl
          | ok w2 => exact ih2 _ _ _
      | nil => simp only [tailF]
      | num n =>
        simp only [tailF, ih1]
        cases h : showF f (Val.num n) (Wrt.put w [32, 46, 32]) σ with
        | mk r s => cases r <;> rfl
      | tru n =>
        simp only [tailF, ih1]
        cases h : showF f (Val.tru n) (Wrt.put w [32, 46, 32]) σ with
        | mk r s => cases r <;> rfl
      | sym n =>
        simp only [tailF, ih1]
        cases h : showF f (Val.sym n) (Wrt.put w [32, 46, 32]) σ with
        | mk r s => cases r <;> rfl
      | prim n =>
        simp only [tailF, ih1]
        cases h : showF f (Val.prim n) (Wrt.put w [32, 46, 32]) σ with
        | mk r s => cases r <;> rfl
      | proc n =>
        simp only [tailF, ih1]
        cases h : showF f (Val.proc n) (Wrt.put w [32, 46, 32]) σ with
        | mk r s => cases r <;> rfl
theorem put_more (m : Nat) (v : Val) (σ : St) : putF v (more m σ) = ((putF v σ).1, more m (putF v σ).2) := by
  unfold putF
  have e : (more m σ).out = σ.out := rfl
  rw [e, (show_more m 1000).1]
  split
  · cases h : showF 1000 v ⟨[], 0⟩ σ with
    | mk r s => cases r <;> rfl
  · rfl
theorem one_more (m : Nat) (p : ByteArray) (v : Val) (σ : St) : oneF p v (more m σ) = ((oneF p v σ).1, more m (oneF p v σ).2) := by
  unfold oneF
  split
  · cases v <;> first | rfl | simp only [values_more]
  split
  · cases v <;> first | rfl | simp only [values_more]
  split
  · rfl
  split
  · rfl
  rfl
theorem two_more (m : Nat) (p : ByteArray) (a b : Val) (σ : St) : twoF p a b (more m σ) = ((twoF p a b σ).1, more m (twoF p a b σ).2) := by
  unfold twoF
  split
  · rfl
  split
  · rfl
  cases a <;> first | rfl | (cases b <;> rfl)
theorem prim_more (m : Nat) (p : ByteArray) (vs : List Val) (σ : St) : primF p vs (more m σ) = ((primF p vs σ).1, more m (primF p vs σ).2) := by
  unfold primF
  split
  · match vs with
    | [] => rfl
    | [a] =>
      simp only
      split
      · exact put_more m a σ
      · exact one_more m p a σ
    | [a, b] => exact two_more m p a b σ
    | _ :: _ :: _ :: _ => rfl
  · rfl
theorem set_more (m : Nat) (c : Cor) (v : Val) (e : List Nat) (σ : St) : setF c v e (more m σ) = ((setF c v e σ).1, more m (setF c v e σ).2) := by
  unfold setF
  have e1 : (more m σ).rows = σ.rows := rfl
  have e2 : (more m σ).glob = σ.glob := rfl
  rw [e1, e2]
  split
  · cases h : (spotsF σ.rows e)[c.index.toNat]? with
    | none => rfl
    | some x => rfl
  split
  · rfl
  · rfl
end
section
set_option linter.unusedVariables false

/-- No more steps are left, no less was put out. -/
def Ext (σ σ' : St) : Prop := σ'.left ≤ σ.left ∧ ∃ l, σ'.out = σ.out ++ l
theorem Ext.refl (σ : St) : Ext σ σ := ⟨Nat.le_refl _, [], by simp⟩
theorem Ext.trans {a b c : St} (h : Ext a b) (k : Ext b c) : Ext a c := by
  obtain ⟨h1, l, h2⟩ := h
  obtain ⟨k1, r, k2⟩ := k
  exact ⟨Nat.le_trans k1 h1, l ++ r, by rw [k2, h2, List.append_assoc]⟩
/-- Steps and texts as they were. -/
def Sm (σ σ' : St) : Prop := σ'.left = σ.left ∧ σ'.out = σ.out
theorem Sm.ext {σ σ' : St} (h : Sm σ σ') : Ext σ σ' := ⟨by have := h.1; omega, [], by simp [h.2]⟩
theorem Sm.trans {a b c : St} (h : Sm a b) (k : Sm b c) : Sm a c := ⟨k.1.trans h.1, k.2.trans h.2⟩
theorem listed_same (ds : List Dat) (σ : St) : Sm σ (listedF ds σ).2 := by
  cases ds <;> exact ⟨rfl, rfl⟩
theorem quoted_same (d : Dat) (σ : St) : Sm σ (quotedF d σ).2 := by
  unfold quotedF
  split
  · exact ⟨rfl, rfl⟩
  split
  · exact ⟨rfl, rfl⟩
  split
  · exact ⟨rfl, rfl⟩
  exact listed_same _ _
theorem values_same (i : Nat) (σ : St) : Sm σ (valuesF i σ).2 := by
  unfold valuesF
  cases h : σ.pairs[i]? with
  | none => exact ⟨rfl, rfl⟩
  | some p =>
    cases p with
    | made a b => exact ⟨rfl, rfl⟩
    | unmade d r =>
      have q := (quoted_same d σ).trans (listed_same r (quotedF d σ).2)
      exact ⟨q.1, q.2⟩
theorem show_same : ∀ (f : Nat), (∀ v w σ, Sm σ (showF f v w σ).2) ∧ (∀ v w σ, Sm σ (tailF f v w σ).2)
  | 0 => ⟨fun _ _ _ => by simp [showF, Sm], fun _ _ _ => by simp [tailF, Sm]⟩
  | f + 1 => by
    obtain ⟨ih1, ih2⟩ := show_same f
    constructor
    · intro v w σ
      rw [showF]
      split
      · exact ⟨rfl, rfl⟩
      cases v with
      | num n => exact ⟨rfl, rfl⟩
      | tru b => exact ⟨rfl, rfl⟩
      | sym s => exact ⟨rfl, rfl⟩
      | nil => exact ⟨rfl, rfl⟩
      | prim s => exact ⟨rfl, rfl⟩
      | proc i => exact ⟨rfl, rfl⟩
      | pair i =>
        have hv := values_same i σ
        have h1 := ih1 (valuesF i σ).1.1 (Wrt.put { w with nodes := w.nodes + 1 } [40]) (valuesF i σ).2
        simp only
        cases h : showF f (valuesF i σ).1.1 (Wrt.put { w with nodes := w.nodes + 1 } [40]) (valuesF i σ).2 with
        | mk r s =>
          rw [h] at h1
          cases r with
          | bad h => exact hv.trans h1
          | ok w2 => exact (hv.trans h1).trans (ih2 (valuesF i σ).1.2 w2 s)
    · intro v w σ
      cases v with
      | pair i =>
        have hv := values_same i σ
        have h1 := ih1 (valuesF i σ).1.1 (Wrt.put w [32]) (valuesF i σ).2
        simp only [tailF]
        cases h : showF f (valuesF i σ).1.1 (Wrt.put w [32]) (valuesF i σ).2 with
        | mk r s =>
          rw [h] at h1
          cases r with
          | bad h => exact hv.trans h1
          | ok w2 => exact (hv.trans h1).trans (ih2 (valuesF i σ).1.2 w2 s)
      | nil => simp [tailF, Sm]
      | num n =>
        have h1 := ih1 (Val.num n) (Wrt.put w [32, 46, 32]) σ
        simp only [tailF]
        cases h : showF f (Val.num n) (Wrt.put w [32, 46, 32]) σ with
        | mk r s =>
          rw [h] at h1
          cases r <;> exact h1
      | tru n =>
        have h1 := ih1 (Val.tru n) (Wrt.put w [32, 46, 32]) σ
        simp only [tailF]
        cases h : showF f (Val.tru n) (Wrt.put w [32, 46, 32]) σ with
        | mk r s =>
          rw [h] at h1
          cases r <;> exact h1
      | sym n =>
        have h1 := ih1 (Val.sym n) (Wrt.put w [32, 46, 32]) σ
        simp only [tailF]
        cases h : showF f (Val.sym n) (Wrt.put w [32, 46, 32]) σ with
        | mk r s =>
          rw [h] at h1
          cases r <;> exact h1
      | prim n =>
        have h1 := ih1 (Val.prim n) (Wrt.put w [32, 46, 32]) σ
        simp only [tailF]
        cases h : showF f (Val.prim n) (Wrt.put w [32, 46, 32]) σ with
        | mk r s =>
          rw [h] at h1
          cases r <;> exact h1
      | proc n =>
        have h1 := ih1 (Val.proc n) (Wrt.put w [32, 46, 32]) σ
        simp only [tailF]
        cases h : showF f (Val.proc n) (Wrt.put w [32, 46, 32]) σ with
        | mk r s =>
          rw [h] at h1
          cases r <;> exact h1
theorem put_ext (v : Val) (σ : St) : Ext σ (putF v σ).2 := by
  unfold putF
  split
  · have h1 := (show_same 1000).1 v ⟨[], 0⟩ σ
    cases h : showF 1000 v ⟨[], 0⟩ σ with
    | mk r s =>
      rw [h] at h1
      cases r with
      | bad h => exact h1.ext
      | ok w =>
        have h2 : s.left = σ.left ∧ s.out = σ.out := h1
        exact ⟨Nat.le_of_eq h2.1, [w.txt], by show s.out ++ [w.txt] = _; rw [h2.2]⟩
  · exact Ext.refl σ
theorem one_ext (p : ByteArray) (v : Val) (σ : St) : Ext σ (oneF p v σ).2 := by
  unfold oneF
  split
  · cases v <;> first | exact Ext.refl σ | exact (values_same _ σ).ext
  split
  · cases v <;> first | exact Ext.refl σ | exact (values_same _ σ).ext
  split
  · exact Ext.refl σ
  split
  · exact Ext.refl σ
  exact Ext.refl σ
theorem two_ext (p : ByteArray) (a b : Val) (σ : St) : Ext σ (twoF p a b σ).2 := by
  unfold twoF
  split
  · exact ⟨Nat.le_refl _, [], by simp⟩
  split
  · exact Ext.refl σ
  cases a <;> first | exact Ext.refl σ | (cases b <;> exact Ext.refl σ)
theorem prim_ext (p : ByteArray) (vs : List Val) (σ : St) : Ext σ (primF p vs σ).2 := by
  unfold primF
  split
  · match vs with
    | [] => exact Ext.refl σ
    | [a] =>
      simp only
      split
      · exact put_ext a σ
      · exact one_ext p a σ
    | [a, b] => exact two_ext p a b σ
    | _ :: _ :: _ :: _ => exact Ext.refl σ
  · exact Ext.refl σ
theorem set_ext (c : Cor) (v : Val) (e : List Nat) (σ : St) : Ext σ (setF c v e σ).2 := by
  unfold setF
  split
  · cases h : (spotsF σ.rows e)[c.index.toNat]? with
    | none => exact Ext.refl σ
    | some x => exact ⟨Nat.le_refl _, [], by simp⟩
  split
  · exact Ext.refl σ
  · exact ⟨Nat.le_refl _, [], by simp⟩
theorem Ext.bind {α β : Type} {σ : St} {r : Res α × St} {k : α → St → Res β × St} (h : Ext σ r.2) (hk : ∀ v τ, Ext τ (k v τ).2) : Ext σ (bindR r k).2 := by
  obtain ⟨x, s⟩ := r
  cases x with
  | bad q => exact h
  | ok v => exact h.trans (hk v s)
theorem all_ext (g : Cor → St → Res Val × St) (hg : ∀ c σ, Ext σ (g c σ).2) : ∀ (l : List Cor) (σ : St), Ext σ (allF g l σ).2
  | [], σ => Ext.refl σ
  | c :: r, σ => (hg c σ).bind fun v τ => (all_ext g hg r τ).bind fun vs τ => Ext.refl τ
theorem last_ext (g : Cor → St → Res Val × St) (hg : ∀ c σ, Ext σ (g c σ).2) : ∀ (l : List Cor) (v : Val) (σ : St), Ext σ (lastF g l v σ).2
  | [], v, σ => Ext.refl σ
  | c :: r, v, σ => (hg c σ).bind fun u τ => last_ext g hg r u τ
theorem withF_ext (r : List Val) (σ : St) : Ext σ (withF r σ) := by
  cases r <;> exact ⟨Nat.le_refl _, [], by simp [withF]⟩
theorem call_ext (g : Cor → List Nat → St → Res Val × St) (hg : ∀ c e σ, Ext σ (g c e σ).2) (vs : List Val) (σ : St) : Ext σ (callF g vs σ).2 := by
  unfold callF
  match vs with
  | [] => exact Ext.refl σ
  | .num _ :: _ => exact Ext.refl σ
  | .tru _ :: _ => exact Ext.refl σ
  | .sym _ :: _ => exact Ext.refl σ
  | .nil :: _ => exact Ext.refl σ
  | .pair _ :: _ => exact Ext.refl σ
  | .prim p :: r => exact prim_ext p r σ
  | .proc i :: r =>
    simp only
    cases hp : σ.procs[i]? with
    | none => exact Ext.refl σ
    | some q =>
      simp only
      split
      · split
        · exact ((withF_ext r σ).trans (hg q.body _ _)).bind fun v τ => ⟨Nat.le_refl _, [], by simp⟩
        · exact Ext.refl σ
      · exact Ext.refl σ
theorem evalB_ext (g : Cor → List Nat → St → Res Val × St) (ih : ∀ c e σ, Ext σ (g c e σ).2) (c : Cor) (e : List Nat) (τ : St) : Ext τ (evalB g c e τ).2 := by
  unfold evalB
  by_cases k1 : c.kind = 1
  · rw [if_pos k1]; exact Ext.refl τ
  rw [if_neg k1]
  by_cases k2 : c.kind = 2
  · rw [if_pos k2]; exact Ext.refl τ
  rw [if_neg k2]
  by_cases k3 : c.kind = 3
  · rw [if_pos k3]; exact (quoted_same _ τ).ext
  rw [if_neg k3]
  by_cases k4 : c.kind = 4
  · rw [if_pos k4]; exact Ext.refl τ
  rw [if_neg k4]
  by_cases k5 : c.kind = 5
  · rw [if_pos k5]
    cases h : globF (c.lib, c.own) τ.glob <;> exact Ext.refl τ
  rw [if_neg k5]
  by_cases k6 : c.kind = 6
  · rw [if_pos k6]; exact Ext.refl τ
  rw [if_neg k6]
  by_cases k7 : c.kind = 7
  · rw [if_pos k7]
    refine (ih _ e τ).bind fun v ρ => ?_
    by_cases hv : v = .tru false
    · rw [if_pos hv]; exact ih _ e ρ
    · rw [if_neg hv]; exact ih _ e ρ
  rw [if_neg k7]
  by_cases k8 : c.kind = 8
  · rw [if_pos k8]; exact ⟨Nat.le_refl _, [], by simp⟩
  rw [if_neg k8]
  by_cases k9 : c.kind = 9
  · rw [if_pos k9]
    exact (all_ext (fun k => g k e) (fun k σ => ih k e σ) c.kids τ).bind fun vs ρ => call_ext g ih vs ρ
  rw [if_neg k9]
  by_cases k12 : c.kind = 12
  · rw [if_pos k12]; exact last_ext (fun k => g k e) (fun k σ => ih k e σ) c.kids .nil τ
  rw [if_neg k12]
  exact (ih _ e τ).bind fun v ρ => set_ext c v e ρ
theorem eval_ext : ∀ (f : Nat) (c : Cor) (e : List Nat) (σ : St), Ext σ (evalF f c e σ).2
  | 0, c, e, σ => by rw [evalF]; exact Ext.refl σ
  | f + 1, c, e, σ => by
    rw [evalF]
    by_cases h0 : σ.left = 0
    · rw [if_pos h0]; exact Ext.refl σ
    rw [if_neg h0]
    have e0 : Ext σ { σ with left := σ.left - 1 } := ⟨Nat.sub_le _ _, [], by simp⟩
    exact e0.trans (evalB_ext (evalF f) (eval_ext f) c e _)
end
end Go.Proofs.YthooljlikllnpaaDoor
