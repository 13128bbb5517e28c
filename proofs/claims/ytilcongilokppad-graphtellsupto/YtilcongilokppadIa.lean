/- Rows of rows of numbers in memory; what order keeps there. -/
import Derived.Test.YtilcongilokppadHe
import Derived.Test.YtilcongilokppadGe
import Derived.Laws.MakeOwn
namespace Go.Proofs.Ytilcongilokppad
set_option linter.unusedVariables false
set_option linter.unusedSimpArgs false
open Go.RowKit

/-- Numbers lie behind a, in a block below B. -/
def Ints (B : Nat) (w : World) (a : Option Addr) (xs : List Nat) : Prop :=
  xs.length ≤ 1048576 ∧ (xs = [] ∨ ∃ b o, a = some ⟨b, o, none⟩ ∧ b < B ∧ ∀ (i x : Nat), xs[i]? = some x → w.cell? ⟨b, o + i, none⟩ = some (.int .i64 x))
theorem Ints.stay {B B' : Nat} {w w' : World} {a : Option Addr} {xs : List Nat} (h : Ints B w a xs) (hw : ∀ k, k < B → w'.heap[k]? = w.heap[k]?) (hB : B ≤ B') : Ints B' w' a xs := by
  obtain ⟨h1, h⟩ := h
  refine ⟨h1, ?_⟩
  rcases h with h | ⟨b, o, ha, hb, h⟩
  · exact Or.inl h
  · exact Or.inr ⟨b, o, ha, Nat.lt_of_lt_of_le hb hB, fun i x hx => (World.cell?_of_block (hw b hb)).trans (h i x hx)⟩
theorem Ints.at {B : Nat} {w : World} {a : Option Addr} {xs : List Nat} (h : Ints B w a xs) {j : Nat} (hj : j < xs.length) :
    ∃ b o x, a = some ⟨b, o, none⟩ ∧ b < B ∧ xs[j]? = some x ∧ w.cell? ⟨b, o + j, none⟩ = some (.int .i64 x) := by
  obtain ⟨_, h⟩ := h
  rcases h with h | ⟨b, o, ha, hb, h⟩
  · subst h
    simp at hj
  · exact ⟨b, o, xs[j], ha, hb, List.getElem?_eq_getElem hj, h j _ (List.getElem?_eq_getElem hj)⟩

/-- Rows of numbers lie behind a, in blocks below B. -/
def Mat (B : Nat) (w : World) (a : Option Addr) (R : List (List Nat)) : Prop :=
  R.length ≤ 1048576 ∧ (R = [] ∨ ∃ b o, a = some ⟨b, o, none⟩ ∧ b < B ∧ ∀ (i : Nat), i < R.length → ∃ ia ic, w.cell? ⟨b, o + i, none⟩ = some (.slice ia (row R i).length ic) ∧ Ints B w ia (row R i))
theorem Mat.stay {B B' : Nat} {w w' : World} {a : Option Addr} {R : List (List Nat)} (h : Mat B w a R) (hw : ∀ k, k < B → w'.heap[k]? = w.heap[k]?) (hB : B ≤ B') : Mat B' w' a R := by
  obtain ⟨h1, h⟩ := h
  refine ⟨h1, ?_⟩
  rcases h with h | ⟨b, o, ha, hb, h⟩
  · exact Or.inl h
  · refine Or.inr ⟨b, o, ha, Nat.lt_of_lt_of_le hb hB, fun i hi => ?_⟩
    obtain ⟨ia, ic, h1, h2⟩ := h i hi
    exact ⟨ia, ic, (World.cell?_of_block (hw b hb)).trans h1, h2.stay hw hB⟩
theorem Mat.at {B : Nat} {w : World} {a : Option Addr} {R : List (List Nat)} (h : Mat B w a R) {j : Nat} (hj : j < R.length) :
    ∃ b o ia ic, a = some ⟨b, o, none⟩ ∧ b < B ∧ w.cell? ⟨b, o + j, none⟩ = some (.slice ia (row R j).length ic) ∧ Ints B w ia (row R j) := by
  obtain ⟨_, h⟩ := h
  rcases h with h | ⟨b, o, ha, hb, h⟩
  · subst h
    simp at hj
  · obtain ⟨ia, ic, h1, h2⟩ := h j hj
    exact ⟨b, o, ia, ic, ha, hb, h1, h2⟩

/-- What order has laid: the web, what is ready, how much is open. -/
structure OS (w : World) (web : Array Value) (n : Nat) (h op : List Nat) (v : Value) (wr : World) : Prop where
  old : Below w.heap.size w wr
  box : wr.heap[w.heap.size]? = some (.cells web 40 (0, 0))
  hp : Hp (w.heap.size + 1) h v wr
  op : RowI (w.heap.size + 1 + 1) (.slice (some ⟨w.heap.size + 1 + 1, 0, none⟩) n n) op wr
  apart : v.ownBlock ≠ some (w.heap.size + 1 + 1)

section
variable {w wr w' : World} {web : Array Value} {n : Nat} {h op h' : List Nat} {v v' : Value}

theorem OS.len (H : OS w web n h op v wr) : op.length = n := by
  rcases H.op.2 with ⟨e, _⟩ | ⟨g, cap, cur, e, _⟩
  · cases e
  · simp at e
    exact e.2.1.symm
theorem OS.size (H : OS w web n h op v wr) : w.heap.size + 1 + 1 < wr.heap.size := (H.op.lt rfl).2
theorem OS.below (H : OS w web n h op v wr) (hb : Below wr.heap.size wr w') : OS w web n h op v w' := by
  have hs := H.size
  exact ⟨H.old.trans (hb.mono H.old.size), (hb.block _ (by omega)).trans H.box, H.hp.below hb, H.op.below hb, H.apart⟩
theorem OS.heap (H : OS w web n h op v wr) (hp : Hp (w.heap.size + 1) h' v' w') (ht : Tch (w.heap.size + 1) v wr w') (hl : Lies wr v v') : OS w web n h' op v' w' := by
  have hs := H.size
  have hv : ∀ k, v.ownBlock = some k → w.heap.size + 1 + 1 ≤ k := fun k hk => (H.hp.row.lt hk).1
  refine ⟨H.old.trans (ht.below H.old.size (by omega) fun k hk => by have := hv k hk; omega), (ht.block _ (by omega) (by omega) fun e => by have := hv _ e; omega).trans H.box, hp, H.op.kept fun k hk => ?_, fun e => ?_⟩
  · simp [Value.ownBlock] at hk
    subst hk
    exact ht.block _ (by omega) (by omega) H.apart
  · rcases hl _ e with q | q
    · exact H.apart q
    · omega
theorem OS.store (H : OS w web n h op v wr) {k : Nat} (hk : k < n) (y : Nat) : OS w web n h (op.set k y) v (wr.setCell ⟨w.heap.size + 1 + 1, k, none⟩ (.int .i64 (y : Nat))) := by
  have hs := H.size
  have hlen := H.len
  refine ⟨H.old.setCell (p := ⟨w.heap.size + 1 + 1, k, none⟩) (by show _ ≤ w.heap.size + 1 + 1; omega) _, (Below.heap_setCell _ _ _ _ (by show _ ≠ w.heap.size + 1 + 1; omega)).trans H.box, H.hp.kept (Below.heap_setCell _ _ _ _ (by show _ ≠ w.heap.size + 1 + 1; omega)) fun g hg => Below.heap_setCell _ _ _ _ (fun e => H.apart (by rw [hg]; exact congrArg some e)), H.op.set (by omega) y, H.apart⟩
theorem OS.cell (H : OS w web n h op v wr) {k : Nat} (hk : k < n) : wr.cell? ⟨w.heap.size + 1 + 1, k, none⟩ = some (.int .i64 (op.getD k 0 : Nat)) := H.op.cell (by rw [H.len]; exact hk)
theorem OS.frozen (H : OS w web n h op v wr) (k : Nat) : wr.frozen? ⟨w.heap.size + 1 + 1, k, none⟩ = false := H.op.frozen k
end

theorem made_one (z : Value) (n : Nat) : (madeCells #[z] n).toList = List.replicate n z := by
  refine List.ext_getElem (by simp [size_madeCells]) fun i h1 h2 => ?_
  simp [madeCells]
  rw [Nat.mod_one]
  rfl

/-- A row that is made, of values of one cell. -/
theorem make_one {t e : TypeId} {z : Value} {bytes : Nat} (ht : Try.prog.underlying t = some (.slice e)) (hinfo : (Try.prog.info? e).map (fun i => (i.zero, i.size, i.bytes)) = some (some z, 1, bytes)) (hb : bytes ≤ 1048576) (hz : z.cells = #[z]) (n : Nat) (hn : n ≤ 1048576) (w : World) :
    (Instr.makeSlice t (.int .i64 n) (.int .i64 n)).run Try.prog w = .ok (.slice (some ⟨w.heap.size, 0, none⟩) n n) (w.alloc (.cells (madeCells #[z] n) e)) := by
  obtain ⟨i0, hinf, hz0, hz1, hz2⟩ := info_parts hinfo
  have h := run_make (P := Try.prog) w t e i0 z ht hinf hz0 .i64 .i64 n n (by omega) (Int.le_refl _) (by
    rw [hz2]
    have : bytes * n ≤ 1048576 * 1048576 := Nat.mul_le_mul hb hn
    have h2 : ((bytes * n : Nat) : Int) ≤ 281474976710656 := by omega
    rwa [Int.natCast_mul] at h2) (by omega)
  rw [h, hz, hz1]
  simp
theorem row_made (B n : Nat) (hn : n ≤ 1048576) (w : World) (hB : B ≤ w.heap.size) : RowI B (.slice (some ⟨w.heap.size, 0, none⟩) n n) (List.replicate n 0) (w.alloc (.cells (madeCells #[.int .i64 0] n) 3)) := by
  refine ⟨by simp, Or.inr ⟨w.heap.size, n, madeCells #[.int .i64 0] n, by simp, hB, heap_alloc_new w _, by simp, by unfold maxLen; omega, by simp [size_madeCells], ?_⟩⟩
  rw [made_one]
  simp [encI, List.map_replicate]
theorem make_ints (n : Nat) (hn : n ≤ 1048576) (w : World) : (Instr.makeSlice 43 (.int .i64 n) (.int .i64 n)).run Try.prog w = .ok (.slice (some ⟨w.heap.size, 0, none⟩) n n) (w.alloc (.cells (madeCells #[.int .i64 0] n) 3)) :=
  make_one Try.underlying43 infoInt (by decide) rfl n hn w

theorem OS.start (w : World) (web : Array Value) (n : Nat) (hn : n ≤ 1048576) : OS w web n [] (List.replicate n 0) (.slice none 0 0) (((w.alloc (.cells web 40)).alloc (.cells #[.slice none 0 0] 56)).alloc (.cells (madeCells #[.int .i64 0] n) 3)) := by
  have e1 : ((w.alloc (.cells web 40)).alloc (.cells #[.slice none 0 0] 56)).heap.size = w.heap.size + 1 + 1 := by simp
  refine ⟨(((Below.refl _ _).alloc (Nat.le_refl _) _).alloc (by simp) _).alloc (by simp; omega) _, ?_, ⟨?_, RowI.nil _ _⟩, ?_, by simp [Value.ownBlock]⟩
  · rw [Below.heap_alloc _ _ _ (by simp; omega), Below.heap_alloc _ _ _ (by simp)]
    exact heap_alloc_new _ _
  · rw [Below.heap_alloc _ _ _ (by simp)]
    have := heap_alloc_new (w.alloc (.cells web 40)) (.cells #[.slice none 0 0] 56)
    simpa using this
  · have := row_made (w.heap.size + 1 + 1) n hn ((w.alloc (.cells web 40)).alloc (.cells #[.slice none 0 0] 56)) (by omega)
    rw [e1] at this
    exact this
theorem Fill.small {n : Nat} {N : Nat → List Nat} {i : Nat} {h op : List Nat} (f : Fill n N i h op) : h.length ≤ i := by
  have := nodup_len h (List.range i) f.hn fun x hx => List.mem_range.2 ((f.mem x).1 hx).1
  simpa using this
theorem Kahn.small {n : Nat} {N : Nat → List Nat} {out h op : List Nat} (f : Kahn n N out h op) : h.length ≤ n := by
  have := nodup_len h (List.range n) f.hn fun x hx => List.mem_range.2 ((f.mem x).1 hx).1
  simpa using this
theorem Told.small {n : Nat} {N U : Nat → List Nat} {out : List Nat} {x j : Nat} {h op : List Nat} (f : Told n N U out x j h op) : h.length < n := by
  have := nodup_len (x :: h) (List.range n) (List.nodup_cons.2 ⟨fun c => ((f.mem x).1 c).2.1 (by simp), f.hn⟩) fun y hy => by
    rcases List.mem_cons.1 hy with rfl | hy
    · exact List.mem_range.2 f.xn
    · exact List.mem_range.2 ((f.mem y).1 hy).1
  simp at this
  omega

/-- .. and what stands there already. -/
structure OT (w : World) (web : Array Value) (n : Nat) (h op : List Nat) (v : Value) (out : List Nat) (vo : Value) (wr : World) : Prop where
  os : OS w web n h op v wr
  out : RowI (w.heap.size + 1 + 1 + 1) vo out wr
  far : ∀ g, vo.ownBlock = some g → v.ownBlock ≠ some g

section
variable {w wr w' : World} {web : Array Value} {n : Nat} {h op h' out : List Nat} {v v' vo : Value}

theorem OT.start (H : OS w web n h op v wr) : OT w web n h op v [] (.slice none 0 0) wr := ⟨H, RowI.nil _ _, fun g hg => by simp [Value.ownBlock] at hg⟩
theorem OT.below (H : OT w web n h op v out vo wr) (hb : Below wr.heap.size wr w') : OT w web n h op v out vo w' := ⟨H.os.below hb, H.out.below hb, H.far⟩
theorem OT.heap (H : OT w web n h op v out vo wr) (hp : Hp (w.heap.size + 1) h' v' w') (ht : Tch (w.heap.size + 1) v wr w') (hl : Lies wr v v') : OT w web n h' op v' out vo w' := by
  refine ⟨H.os.heap hp ht hl, H.out.kept fun k hk => ht.block k (H.out.lt hk).2 (by have := (H.out.lt hk).1; omega) (H.far k hk), fun g hg e => ?_⟩
  rcases hl g e with q | q
  · exact H.far g hg q
  · have := (H.out.lt hg).2
    omega
theorem OT.store (H : OT w web n h op v out vo wr) {k : Nat} (hk : k < n) (y : Nat) : OT w web n h (op.set k y) v out vo (wr.setCell ⟨w.heap.size + 1 + 1, k, none⟩ (.int .i64 (y : Nat))) :=
  ⟨H.os.store hk y, H.out.kept fun g hg => Below.heap_setCell _ _ _ _ (by have := (H.out.lt hg).1; show g ≠ w.heap.size + 1 + 1; omega), H.far⟩
theorem OT.push (H : OT w web n h op v out vo wr) {out' : List Nat} {vo' : Value} (hr : RowI (w.heap.size + 1 + 1 + 1) vo' out' w') (hg : wr.grownBy w' vo.ownBlock) (hl : ∀ g, vo'.ownBlock = some g → vo.ownBlock = some g ∨ wr.heap.size < g) : OT w web n h op v out' vo' w' := by
  have hs := H.os.size
  have hvo : ∀ k, vo.ownBlock = some k → w.heap.size + 1 + 1 + 1 ≤ k := fun k hk => (H.out.lt hk).1
  have keep : ∀ k, k < wr.heap.size → k < w.heap.size + 1 + 1 + 1 → w'.heap[k]? = wr.heap[k]? := fun k hk hk' => hg.block k hk fun e => by have := hvo k e.symm; omega
  refine ⟨⟨Below.grown H.os.old hg H.os.old.size fun k hk => by have := hvo k hk; omega, (keep _ (by omega) (by omega)).trans H.os.box, H.os.hp.kept (keep _ (by omega) (by omega)) fun k hk => hg.block k (H.os.hp.row.lt hk).2 fun e => H.far k e.symm hk, H.os.op.kept fun k hk => ?_, H.os.apart⟩, hr, fun g hg' e => ?_⟩
  · simp [Value.ownBlock] at hk
    subst hk
    exact keep _ (by omega) (by omega)
  · rcases hl g hg' with q | q
    · exact H.far g q e
    · have := (H.os.hp.row.lt e).2
      omega
end

/-- One number more. -/
theorem wpList_pushI {ops : Array Oper} {rest : List Oper} {o : Oper} {a : Act} {Q : Exit → Act → World → Prop} {w0 : World} (y ab : Nat) (hgd : o.guard = none) (s x : Operand)
    (ho : o.op = .call { callee := .builtin .append, args := #[s, x], argTypes := #[43, 43] }) (B : Nat) (v : Value) (xs : List Nat) (hs : a.eval s = v) (hrow : RowI B v xs w0)
    (hx : a.eval x = .slice (some ⟨ab, 0, none⟩) 1 1) (hab : ab = w0.heap.size) (hB : B ≤ w0.heap.size) (hlen : xs.length ≤ 1048576)
    (h : ∀ g cap w', RowI B (.slice (some ⟨g, 0, none⟩) (xs.length + 1) cap) (xs ++ [y]) w' → w0.grownBy w' v.ownBlock → (v.ownBlock = some g ∨ w0.heap.size < g) → wpList Try.prog ops Q rest (a.put o.dst (.slice (some ⟨g, 0, none⟩) (xs.length + 1) cap)) w') :
    wpList Try.prog ops Q (o :: rest) a (w0.alloc (.cells #[.int .i64 (y : Int)] 3)) := by
  refine wpList_push (P := Try.prog) 3 _ 8 (.int .i64 (y : Int)) ab hgd s x 43 ho Try.underlying43 infoInt rfl B v xs.length (xs.map encI) hs hrow hx hab rfl hB (by unfold maxLen; omega) (by omega) fun g cap w' h1 h2 h3 => h g cap w' ?_ h2 h3
  unfold RowI
  simpa [encI] using h1

def lenV : Value → Nat
  | .slice _ n _ => n
  | _ => 0
end Go.Proofs.Ytilcongilokppad
