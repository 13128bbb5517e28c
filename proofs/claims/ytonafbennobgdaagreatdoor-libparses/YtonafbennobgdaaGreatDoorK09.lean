/- Rows of data that a call makes by append (moved). -/
import Derived.Test.YtonafbennobgdaaGreatDoorK07
import Derived.Test.YtonafbennobgdaaGreatDoorK08
namespace Go.Proofs.YtonafbennobgdaaGreatDoor
set_option linter.unusedVariables false
set_option linter.unusedSimpArgs false
open Go.RowKit
theorem run_append_where {P : Program} (w : World) (base : Nat) (t ty e : TypeId) (i : TypeInfo) (z : Value) (size bytes : Nat) (ht : P.underlying t = some (.slice e)) (hi : P.info? e = some i) (hz : i.zero = some z)
 (hsize : i.size = size) (hby : i.bytes = bytes) (hzs : z.cells.size = size) (hsz : 0 < size)
 (v : Value) (n : Nat) (xs : List Value) (hown : w.ownsRow base e size v n xs)
 (a : Addr) (m c : Nat) (news : List Value) (hl : news.length = m * size) (hnews : ∀ j u, news[j]? = some u → w.cell? (a.add j) = some u) (h1 : ∀ u ∈ news, u.oneCell' = true) (hm0 : 0 < m)
 (h63 : n + m ≤ maxLen) (hbytes : (n + m) * bytes ≤ 140737488355328) (hbase : base ≤ w.heap.size) :
 ∃ v' w', (Builtin.append_ #[t, t] ty #[v, .slice (some a) m c]).run P w = .ok v' w' ∧ w'.ownsRow base e size v' (n + m) (xs ++ news) ∧ w.grownBy w' v.ownBlock ∧ (v'.ownBlock = v.ownBlock ∨ v'.ownBlock = some w.heap.size) := by
 obtain ⟨v', w', hr, h2, h3, _⟩ := run_append_own (P := P) w base t ty e i z size bytes ht hi hz hsize hby hzs hsz v n xs hown a m c news hl hnews h1 h63 hbytes hbase
 refine ⟨v', w', hr, h2, h3, ?_⟩
 subst hsize
 subst hby
 have hsmall : n + m ≤ 9223372036854775807 := by simp only [maxLen] at h63; omega
 rcases hown.2 with ⟨rfl, rfl⟩ | ⟨g, cap, cur, rfl, hbg, hg, hnc, hcm, hcs, htake⟩
 ·have hr2 := run_append_nil (P := P) w t ty e i z ht hi hz a m c news hl hnews hm0 (by omega) (by have hb := hbytes; simp only [Nat.zero_add] at hb; omega)
  rw [hr] at hr2
  obtain ⟨rfl, _⟩ := Result.ok.inj hr2
  exact Or.inr rfl
 by_cases hroom : n + m ≤ cap
 ·have hfit : n * i.size + news.length ≤ cur.size := by rw [hl, hcs, ← Nat.add_mul]; exact Nat.mul_le_mul_right _ hroom
  have hr2 := run_append_room (P := P) w t ty e i ht hi g n cap cur hg a m c news hl hnews h1 hroom hfit
  rw [hr] at hr2
  obtain ⟨rfl, _⟩ := Result.ok.inj hr2
  exact Or.inl rfl
 have holds : ∀ j u, xs[j]? = some u → w.cell? ((⟨g, 0, none⟩ : Addr).add j) = some u := hown.cells (g := g) rfl
 have hr2 := run_append_grow (P := P) w t ty e i z ht hi hz ⟨g, 0, none⟩ n cap xs hown.1 holds a m c news hl hnews (by omega) (by omega) (growslice_fits (by omega) hbytes)
 rw [hr] at hr2
 obtain ⟨rfl, _⟩ := Result.ok.inj hr2
 exact Or.inr rfl
def flat (es : List (Dat × Option Addr × Nat)) : List Value := es.flatMap fun e => [.int .i64 e.1.kind, .int .i64 e.1.n, .string e.1.name, .int .i64 e.1.stamp, .int .i64 e.1.lib, .slice e.2.1 e.1.kids.length e.2.2]
def New (w w' : World) (b : Nat) : Prop := w.heap.size ≤ b ∧ b < w'.heap.size
structure RowC (B : Nat) (v : Value) (es : List (Dat × Option Addr × Nat)) (w : World) : Prop where
 own : w.ownsRow B 26 6 v es.length (flat es)
 kids : ∀ e ∈ es, e.1.name.size ≤ maxLen ∧ e.1.kids.length ≤ e.2.2 ∧ ∃ f, Dc (fun b => B ≤ b ∧ b < w.heap.size ∧ some b ≠ v.ownBlock) w f e.2.1 e.1.kids
theorem RowC.nil (B : Nat) (w : World) : RowC B (.slice none 0 0) [] w := ⟨World.ownsRow_nil _ _ _ _, by simp⟩
theorem RowC.below {B : Nat} {v : Value} {es : List (Dat × Option Addr × Nat)} {w w' : World} (h : RowC B v es w) (hk : Below w.heap.size w w') : RowC B v es w' := by
 refine ⟨h.own.kept (row := none) ⟨hk.os, hk.tape, hk.output, hk.size, fun k h1 _ => hk.block k h1⟩ (by cases hv : v.ownBlock <;> simp), fun e he => ?_⟩
 obtain ⟨hn, hc, f, hd⟩ := h.kids e he
 refine ⟨hn, hc, f, Dc.stay ?_ ?_ f _ _ hd⟩
 ·intro k hk2
  exact hk.block k hk2.2.1
 intro k hk2
 exact ⟨hk2.1, Nat.lt_of_lt_of_le hk2.2.1 hk.size, hk2.2.2⟩
theorem RowC.push {B : Nat} {v v' : Value} {es : List (Dat × Option Addr × Nat)} {wr w w' : World} (o : Obj) {d : Dat} {a : Option Addr} {cap f : Nat} (h : RowC B v es w) (hB : B ≤ wr.heap.size) (hv : ∀ k, v.ownBlock = some k → k < wr.heap.size)
 (hd : Dc (New wr w) w f a d.kids) (hn : d.name.size ≤ maxLen) (hcap : d.kids.length ≤ cap)
 (hown : w'.ownsRow B 26 6 v' (es.length + 1) (flat es ++ [.int .i64 d.kind, .int .i64 d.n, .string d.name, .int .i64 d.stamp, .int .i64 d.lib, .slice a d.kids.length cap]))
 (hg : (w.alloc o).grownBy w' v.ownBlock) (hw : v'.ownBlock = v.ownBlock ∨ v'.ownBlock = some (w.heap.size + 1)) : RowC B v' (es ++ [(d, a, cap)]) w' := by
 have hsz : (w.alloc o).heap.size = w.heap.size + 1 := by simp
 have hold : ∀ k, k < w.heap.size → some k ≠ v.ownBlock → w'.heap[k]? = w.heap[k]? := fun k hk hne => (hg.block k (by omega) hne).trans (Below.heap_alloc _ _ _ hk)
 have hnew : ∀ k, k < w.heap.size → some k ≠ v.ownBlock → some k ≠ v'.ownBlock := by
  intro k hk hne
  rcases hw with e | e
  ·rw [e]; exact hne
  rw [e]
  intro e2
  have := Option.some.inj e2
  omega
 have hle : w.heap.size ≤ w'.heap.size := Nat.le_trans (by omega) hg.size
 refine ⟨?_, fun e he => ?_⟩
 ·have e1 : flat (es ++ [(d, a, cap)]) = flat es ++ [.int .i64 d.kind, .int .i64 d.n, .string d.name, .int .i64 d.stamp, .int .i64 d.lib, .slice a d.kids.length cap] := by simp [flat]
  rw [e1, List.length_append]
  exact hown
 rcases List.mem_append.1 he with he | he
 ·obtain ⟨hn, hc, f, hd⟩ := h.kids e he
  refine ⟨hn, hc, f, Dc.stay (fun k hk => hold k hk.2.1 hk.2.2) (fun k hk => ⟨hk.1, Nat.lt_of_lt_of_le hk.2.1 hle, hnew k hk.2.1 hk.2.2⟩) f _ _ hd⟩
 simp at he
 subst he
 have hne : ∀ k, New wr w k → some k ≠ v.ownBlock := by
  intro k hk e
  have := hv k e.symm
  have := hk.1
  omega
 exact ⟨hn, hcap, f, Dc.stay (fun k hk => hold k hk.2 (hne k hk)) (fun k hk => ⟨by have := hk.1; omega, Nat.lt_of_lt_of_le hk.2 hle, hnew k hk.2 (hne k hk)⟩) f _ _ hd⟩
theorem RowC.lie {B : Nat} {v : Value} {es : List (Dat × Option Addr × Nat)} {w : World} (h : RowC B v es w) (hlen : es.length ≤ 9223372036854775807) : ∃ a cap f, v = .slice a (es.map (·.1)).length cap ∧ (es.map (·.1)).length ≤ cap ∧ Dc (fun b => B ≤ b ∧ b < w.heap.size) w f a (es.map (·.1)) := by
 -- one depth for all
 have hfuel : ∃ F, ∀ e ∈ es, Dc (fun b => B ≤ b ∧ b < w.heap.size) w F e.2.1 e.1.kids := by
  have aux : ∀ (l : List (Dat × Option Addr × Nat)), (∀ e ∈ l, ∃ f, Dc (fun b => B ≤ b ∧ b < w.heap.size) w f e.2.1 e.1.kids) → ∃ F, ∀ e ∈ l, Dc (fun b => B ≤ b ∧ b < w.heap.size) w F e.2.1 e.1.kids := by
   intro l
   induction l with
   | nil => exact fun _ => ⟨0, by simp⟩
   | cons x r ih =>
    intro hx
    obtain ⟨F, hF⟩ := ih (fun e he => hx e (List.mem_cons_of_mem _ he))
    obtain ⟨f, hf⟩ := hx x (by simp)
    refine ⟨f + F, fun e he => ?_⟩
    rcases List.mem_cons.1 he with rfl | he
    ·exact hf.upto F
    have := (hF e he).upto f
    rwa [Nat.add_comm] at this
  refine aux es (fun e he => ?_)
  obtain ⟨_, _, f, hd⟩ := h.kids e he
  exact ⟨f, Dc.stay (fun _ _ => rfl) (fun k hk => ⟨hk.1, hk.2.1⟩) f _ _ hd⟩
 obtain ⟨F, hF⟩ := hfuel
 rcases h.own.2 with ⟨rfl, h0⟩ | ⟨g, cap, cur, rfl, hbg, hg, hnc, hcm, hcs, htake⟩
 ·have : es = [] := List.length_eq_zero_iff.1 h0
  subst this
  exact ⟨none, 0, 0, rfl, Nat.le_refl _, rfl⟩
 refine ⟨some ⟨g, 0, none⟩, cap, F + 1, by simp, by simpa using hnc, ?_⟩
 refine ⟨by simp; exact hlen, ?_⟩
 refine Or.inr ⟨g, 0, rfl, ⟨hbg, (Array.getElem?_eq_some_iff.1 hg).1⟩, ?_⟩
 intro i d hd
 rw [List.getElem?_map] at hd
 obtain ⟨e, he, rfl⟩ := Option.map_eq_some_iff.1 hd
 have hmem : e ∈ es := List.mem_of_getElem? he
 have hcell : ∀ j u, (flat es)[j]? = some u → w.cell? ⟨g, j, none⟩ = some u := by
  intro j u hu
  have := h.own.cells (g := g) rfl j u hu
  have hadd : (⟨g, 0, none⟩ : Addr).add j = ⟨g, j, none⟩ := by unfold Addr.add; split <;> simp_all
  rwa [hadd] at this
 have hflat : ∀ k, k < 6 → (flat es)[i * 6 + k]? = [Value.int .i64 e.1.kind, .int .i64 e.1.n, .string e.1.name, .int .i64 e.1.stamp, .int .i64 e.1.lib, .slice e.2.1 e.1.kids.length e.2.2][k]? := by
  have aux : ∀ (l : List (Dat × Option Addr × Nat)) (i : Nat), l[i]? = some e → ∀ k, k < 6 → (flat l)[i * 6 + k]? = [Value.int .i64 e.1.kind, .int .i64 e.1.n, .string e.1.name, .int .i64 e.1.stamp, .int .i64 e.1.lib, .slice e.2.1 e.1.kids.length e.2.2][k]? := by
   intro l
   induction l with
   | nil => intro i hi; simp at hi
   | cons x r ih =>
    intro i hi k hk
    have e1 : flat (x :: r) = [Value.int .i64 x.1.kind, .int .i64 x.1.n, .string x.1.name, .int .i64 x.1.stamp, .int .i64 x.1.lib, .slice x.2.1 x.1.kids.length x.2.2] ++ flat r := by simp [flat]
    rw [e1]
    cases i with
    | zero =>
     simp at hi
     subst hi
     rw [List.getElem?_append_left (by simp; omega)]
     simp
    | succ i =>
     rw [List.getElem?_append_right (by simp; omega)]
     have := ih i (by simpa using hi) k hk
     rw [← this]
     congr 1
     simp
     omega
  exact aux es i he
 refine ⟨e.2.1, e.2.2, ?_, ?_, ?_, ?_, ?_, ?_, (h.kids e hmem).1, (h.kids e hmem).2.1, hF e hmem⟩
 all_goals rw [Nat.zero_add]
 ·exact hcell _ _ (hflat 0 (by decide))
 ·exact hcell _ _ (hflat 1 (by decide))
 ·exact hcell _ _ (hflat 2 (by decide))
 ·exact hcell _ _ (hflat 3 (by decide))
 ·exact hcell _ _ (hflat 4 (by decide))
 exact hcell _ _ (hflat 5 (by decide))
section
variable {N : Nat} {d : Dat} {v : Value} {w w' : World}
structure Nod (N : Nat) (d : Dat) (v : Value) (w : World) : Prop where
 lt : N < w.heap.size
 q0 : w.cell? ⟨N, 0, none⟩ = some (.int .i64 d.kind)
 q1 : w.cell? ⟨N, 1, none⟩ = some (.int .i64 d.n)
 q2 : w.cell? ⟨N, 2, none⟩ = some (.string d.name)
 q3 : w.cell? ⟨N, 3, none⟩ = some (.int .i64 d.stamp)
 q4 : w.cell? ⟨N, 4, none⟩ = some (.int .i64 d.lib)
 q5 : w.cell? ⟨N, 5, none⟩ = some v
 z : ∀ j, w.frozen? ⟨N, j, none⟩ = false
end
theorem infoDat : (Tryz.prog.info? 26).map (fun i => (i.zero, i.size, i.bytes)) = some (some (.agg #[.int .i64 0, .int .i64 0, .string ⟨#[]⟩, .int .i64 0, .int .i64 0, .slice none 0 0]), 6, 72) := by kernel_rfl
theorem addr_add (b q : Nat) : (⟨b, 0, none⟩ : Addr).add q = ⟨b, q, none⟩ := by unfold Addr.add; split <;> simp_all
def emS : ByteArray := ⟨#[]⟩
def zeroD : Dat := ⟨0, 0, emS, 0, 0, []⟩
end Go.Proofs.YtonafbennobgdaaGreatDoor
