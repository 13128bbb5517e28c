/- A reader's truths. Rows of data that a call makes by append. A reader's lists. -/
import Derived.Test.YtonafbennobgdaaGreatDoorK02
import Derived.Test.YtonafbennobgdaaGreatDoorK21
namespace Go.Proofs.YtonafbennobgdaaGreatDoor
set_option linter.unusedVariables false
set_option linter.unusedSimpArgs false
section
open Go.RowKit

def truthAt (t : List UInt8) (i n : Nat) : Rd Dat :=
 if t = [116] then .inr (datBool 1, i + 2, n) else if t = [102] then .inr (datBool 0, i + 2, n) else .inl (2, (i : Int))

set_option maxRecDepth 100000 in
set_option maxHeartbeats 3200000 in
theorem truth_read (rb : Nat) (s : ByteArray) (i n : Nat) (w : World) (h : Rdr rb s i n w) (hi : i < s.size) (hs : s.size ≤ 6000) :
  Calls Tryz.prog 100 #[.pointer (some ⟨rb, 0, none⟩)] w (Out rb s (truthAt (byteL (s.data.toList.drop (i + 1))) i n) w) := by
 obtain ⟨T, hT, hTs, hTi, hwa⟩ := wordAhead_from s (i + 1) hs
 rw [← hT]
 have WA : Hid (∀ w, Calls Tryz.prog 49 #[.string (s.extract (i + 1) s.size)] w fun e w' => e = .returned (.string T) ∧ w' = w) := hwa
 have c0 := h.c0
 have c1 := h.c1
 have l1 := h.lt
 have z1 := h.z1
 have HR : Hid (Rdr rb s i n w) := h
 clear h hT hwa hTi
 have tl := ByteArray.toList_eq T
 have TL : Hid (T.toList = T.data.toList) := tl
 clear tl
 by_cases t1 : T.data.toList = [116]
 ·have HW : Hid (truthAt T.data.toList i n = .inr (datBool 1, i + 2, n)) := by
   show truthAt T.data.toList i n = .inr (datBool 1, i + 2, n)
   unfold truthAt
   rw [if_pos t1]
  have e1 : T = ⟨#[116]⟩ := WideShapes.bytes_inj t1
  subst e1
  clear t1 TL
  go_enter Tryz.func100, Tryz.ntmps100
  go_wp2_with fail
  go_quiet ((go_at_call 49; exact Calls.quiet_of_same (WA.out _)))
  go_wp2_with fail
  refine bodyPost_ret (v := dv (datBool 1) none 0) (by simp [results, Tryz.results100, go_sem, dv, datBool]) rfl ?_
  rw [HW.out]
  refine ⟨?_, ?_, none, 0, 0, rfl, rfl⟩
  ·exact keep_six (((((((Keep.refl _ _).alloc _).alloc _).drewN _).setNew ⟨w.heap.size + 1, 1, none⟩ (Nat.le_succ _) _)).setCell ⟨rb, 1, none⟩ rfl _) (Nat.le_refl _) _ _ _ _ _ _
  ·exact ((((((HR.out.alloc _).alloc _).drewN _).other ⟨w.heap.size + 1, 1, none⟩ (by simp; omega) _).move' _ _ (by omega)).six (by omega) _ _ _ _ _ _)
 ·by_cases t2 : T.data.toList = [102]
  ·have HW : Hid (truthAt T.data.toList i n = .inr (datBool 0, i + 2, n)) := by
    show truthAt T.data.toList i n = .inr (datBool 0, i + 2, n)
    unfold truthAt
    rw [if_neg t1, if_pos t2]
   have e1 : T = ⟨#[102]⟩ := WideShapes.bytes_inj t2
   subst e1
   clear t1 t2 TL
   go_enter Tryz.func100, Tryz.ntmps100
   go_wp2_with fail
   go_quiet ((go_at_call 49; exact Calls.quiet_of_same (WA.out _)))
   go_wp2_with fail
   refine bodyPost_ret (v := dv (datBool 0) none 0) (by simp [results, Tryz.results100, go_sem, dv, datBool]) rfl ?_
   rw [HW.out]
   refine ⟨?_, ?_, none, 0, 0, rfl, rfl⟩
   ·exact keep_six (((((((Keep.refl _ _).alloc _).alloc _).drewN _).setNew ⟨w.heap.size + 1, 1, none⟩ (Nat.le_succ _) _)).setCell ⟨rb, 1, none⟩ rfl _) (Nat.le_refl _) _ _ _ _ _ _
   ·exact ((((((HR.out.alloc _).alloc _).drewN _).other ⟨w.heap.size + 1, 1, none⟩ (by simp; omega) _).move' _ _ (by omega)).six (by omega) _ _ _ _ _ _)

  ·have HW : Hid (truthAt T.data.toList i n = .inl (2, (i : Int))) := by
    show truthAt T.data.toList i n = .inl (2, (i : Int))
    unfold truthAt
    rw [if_neg t1, if_neg t2]
   have e1 : (T.toList == [116]) = false := by rw [TL.out]; simpa using t1
   have e2 : (T.toList == [102]) = false := by rw [TL.out]; simpa using t2
   clear t1 t2 TL
   go_enter Tryz.func100, Tryz.ntmps100
   go_wp2_with fail
   go_quiet ((go_at_call 49; exact Calls.quiet_of_same (WA.out _)))
   go_wp2_with fail
   refine (fault_any rb s i n 2 _ (((HR.out.alloc _).alloc _).drewN _)).mono ?_
   rintro e w1 ⟨rfl, hb⟩
   have hk : Keep rb w w1 := ((((Keep.refl _ _).alloc _).alloc _).drewN _).below hb
   clear hb
   go_wp2_with fail
   refine ⟨rfl, ?_⟩
   rw [HW.out]
   exact ⟨rfl, hk⟩
end
section
open Go.RowKit

theorem run_append_whereT {P : Program} (w : World) (base : Nat) (t ty e : TypeId) (i : TypeInfo) (z : Value) (size bytes : Nat) (ht : P.underlying t = some (.slice e)) (hi : P.info? e = some i) (hz : i.zero = some z)
  (hsize : i.size = size) (hby : i.bytes = bytes) (hzs : z.cells.size = size) (hsz : 0 < size)
  (v : Value) (n : Nat) (xs : List Value) (hown : w.ownsRow base e size v n xs)
  (a : Addr) (m c : Nat) (news : List Value) (hl : news.length = m * size) (hnews : ∀ j u, news[j]? = some u → w.cell? (a.add j) = some u) (h1 : ∀ u ∈ news, u.oneCell' = true) (hm0 : 0 < m)
  (h63 : n + m ≤ maxLen) (hbytes : (n + m) * bytes ≤ 140737488355328) (hbase : base ≤ w.heap.size) :
  ∃ v' w', (Builtin.append_ #[t, t] ty #[v, .slice (some a) m c]).run P w = .ok v' w' ∧ w'.ownsRow base e size v' (n + m) (xs ++ news) ∧ w.grownBy w' v.ownBlock ∧ (v'.ownBlock = v.ownBlock ∨ v'.ownBlock = some w.heap.size) := by
 obtain ⟨v', w', hr, h2, h3, _⟩ := run_append_own (P := P) w base t ty e i z size bytes ht hi hz hsize hby hzs hsz v n xs hown a m c news hl hnews h1 h63 hbytes hbase
 refine ⟨v', w', hr, h2, h3, ?_⟩
 subst hsize
 subst hby
 have hsmall : n + m ≤ 9223372036854775807 := by simp only [maxLen] at h63; omega
 rcases hown.2 with ⟨rfl, rfl⟩ | ⟨g, cap, cur, rfl, hbg, hg, hnc, hcm, hcs, htake⟩
 ·have hr2 := run_append_nil (P := P) w t ty e i z ht hi hz a m c news hl hnews hm0 (by omega) (by have hb := hbytes; simp only [Nat.zero_add] at hb; omega)
  rw [hr] at hr2
  obtain ⟨rfl, _⟩ := Result.ok.inj hr2
  exact Or.inr rfl
 ·by_cases hroom : n + m ≤ cap
  ·have hfit : n * i.size + news.length ≤ cur.size := by rw [hl, hcs, ← Nat.add_mul]; exact Nat.mul_le_mul_right _ hroom
   have hr2 := run_append_room (P := P) w t ty e i ht hi g n cap cur hg a m c news hl hnews h1 hroom hfit
   rw [hr] at hr2
   obtain ⟨rfl, _⟩ := Result.ok.inj hr2
   exact Or.inl rfl
  ·have holds : ∀ j u, xs[j]? = some u → w.cell? ((⟨g, 0, none⟩ : Addr).add j) = some u := hown.cells (g := g) rfl
   have hr2 := run_append_grow (P := P) w t ty e i z ht hi hz ⟨g, 0, none⟩ n cap xs hown.1 holds a m c news hl hnews (by omega) (by omega) (growslice_fits (by omega) hbytes)
   rw [hr] at hr2
   obtain ⟨rfl, _⟩ := Result.ok.inj hr2
   exact Or.inr rfl

theorem wpList_append_whereT {P : Program} {w : World} {ops : Array Oper} {rest : List Oper} {o : Oper} {a : Act} {Q : Exit → Act → World → Prop} (hgd : o.guard = none) (s x : Operand) (t : TypeId)
  (ho : o.op = .call { callee := .builtin .append, args := #[s, x], argTypes := #[t, t] })
  (base : Nat) (e : TypeId) (i : TypeInfo) (z : Value) (size bytes : Nat) (ht : P.underlying t = some (.slice e)) (hi : P.info? e = some i) (hz : i.zero = some z)
  (hsize : i.size = size) (hby : i.bytes = bytes) (hzs : z.cells.size = size) (hsz : 0 < size)
  (v : Value) (n : Nat) (xs : List Value) (hs : a.eval s = v) (hown : w.ownsRow base e size v n xs)
  (ad : Addr) (m c : Nat) (news : List Value) (hx : a.eval x = .slice (some ad) m c) (hl : news.length = m * size) (hnews : ∀ j u, news[j]? = some u → w.cell? (ad.add j) = some u) (h1 : ∀ u ∈ news, u.oneCell' = true) (hm0 : 0 < m)
  (h63 : n + m ≤ maxLen) (hbytes : (n + m) * bytes ≤ 140737488355328) (hbase : base ≤ w.heap.size)
  (h : ∀ v' w', w'.ownsRow base e size v' (n + m) (xs ++ news) → w.grownBy w' v.ownBlock → (v'.ownBlock = v.ownBlock ∨ v'.ownBlock = some w.heap.size) → wpList P ops Q rest (a.put o.dst v') w') : wpList P ops Q (o :: rest) a w := by
 refine wpList_plain hgd fun _ hK => ?_
 obtain ⟨v', w', hr, h2, h3, h4⟩ := run_append_whereT (P := P) w base t o.type e i z size bytes ht hi hz hsize hby hzs hsz v n xs hown ad m c news hl hnews h1 hm0 h63 hbytes hbase
 unfold Oper.wp execOp
 simp only [ho, resolve, invoke, builtin, Sem.run_bind, Sem.run_pure, Result.andThen_ok, List.map_toArray, List.map_cons, List.map_nil, hs, hx, hr]
 exact hK _ _ (h v' w' h2 h3 h4)

def flatT (es : List (Dat × Option Addr × Nat)) : List Value := es.flatMap fun e => [.int .i64 e.1.kind, .int .i64 e.1.n, .string e.1.name, .int .i64 e.1.stamp, .int .i64 e.1.lib, .slice e.2.1 e.1.kids.length e.2.2]

structure Row (B : Nat) (v : Value) (es : List (Dat × Option Addr × Nat)) (w : World) : Prop where
 own : w.ownsRow B 26 6 v es.length (flatT es)
 kids : ∀ e ∈ es, e.1.name.size ≤ maxLen ∧ ∃ f, Dw (fun b => B ≤ b ∧ b < w.heap.size ∧ some b ≠ v.ownBlock) w f e.2.1 e.2.2 e.1.kids

theorem Row.nil (B : Nat) (w : World) : Row B (.slice none 0 0) [] w := ⟨World.ownsRow_nil _ _ _ _, by simp⟩

theorem Row.keep {B rb : Nat} {v : Value} {es : List (Dat × Option Addr × Nat)} {w w' : World} (h : Row B v es w) (hk : Keep rb w w') (hrb : rb < B) : Row B v es w' := by
 refine ⟨h.own.kept hk ?_, fun e he => ?_⟩
 ·cases hv : v.ownBlock with
  | none => exact Or.inl rfl
  | some k =>
   have := (h.own.lt k hv).1
   refine Or.inr ?_
   intro e
   have := Option.some.inj e
   omega
 ·obtain ⟨hn, f, hd⟩ := h.kids e he
  refine ⟨hn, f, Dw.stay ?_ ?_ f _ _ _ hd⟩
  ·intro k hk2
   exact hk.block k hk2.2.1 (by simp; omega)
  ·intro k hk2
   exact ⟨hk2.1, Nat.lt_of_lt_of_le hk2.2.1 hk.size, hk2.2.2⟩

theorem Row.below {B : Nat} {v : Value} {es : List (Dat × Option Addr × Nat)} {w w' : World} (h : Row B v es w) (hk : Below w.heap.size w w') : Row B v es w' := by
 refine ⟨h.own.kept (row := none) ⟨hk.os, hk.tape, hk.output, hk.size, fun k h1 _ => hk.block k h1⟩ (by cases hv : v.ownBlock <;> simp), fun e he => ?_⟩
 obtain ⟨hn, f, hd⟩ := h.kids e he
 refine ⟨hn, f, Dw.stay ?_ ?_ f _ _ _ hd⟩
 ·intro k hk2
  exact hk.block k hk2.2.1
 ·intro k hk2
  exact ⟨hk2.1, Nat.lt_of_lt_of_le hk2.2.1 hk.size, hk2.2.2⟩

theorem Row.push {B : Nat} {v v' : Value} {es : List (Dat × Option Addr × Nat)} {wr w w' : World} (o : Obj) {d : Dat} {a : Option Addr} {cap f : Nat} (h : Row B v es w) (hB : B ≤ wr.heap.size) (hv : ∀ k, v.ownBlock = some k → k < wr.heap.size)
  (hd : Dw (NewT wr w) w f a cap d.kids) (hn : d.name.size ≤ maxLen)
  (hown : w'.ownsRow B 26 6 v' (es.length + 1) (flatT es ++ [.int .i64 d.kind, .int .i64 d.n, .string d.name, .int .i64 d.stamp, .int .i64 d.lib, .slice a d.kids.length cap]))
  (hg : (w.alloc o).grownBy w' v.ownBlock) (hw : v'.ownBlock = v.ownBlock ∨ v'.ownBlock = some (w.heap.size + 1)) : Row B v' (es ++ [(d, a, cap)]) w' := by
 have hsz : (w.alloc o).heap.size = w.heap.size + 1 := by simp
 have hold : ∀ k, k < w.heap.size → some k ≠ v.ownBlock → w'.heap[k]? = w.heap[k]? := fun k hk hne => (hg.block k (by omega) hne).trans (Below.heap_alloc _ _ _ hk)
 have hnew : ∀ k, k < w.heap.size → some k ≠ v.ownBlock → some k ≠ v'.ownBlock := by
  intro k hk hne
  rcases hw with e | e
  ·rw [e]; exact hne
  ·rw [e]
   intro e2
   have := Option.some.inj e2
   omega
 have hle : w.heap.size ≤ w'.heap.size := Nat.le_trans (by omega) hg.size
 refine ⟨?_, fun e he => ?_⟩
 ·have e1 : flatT (es ++ [(d, a, cap)]) = flatT es ++ [.int .i64 d.kind, .int .i64 d.n, .string d.name, .int .i64 d.stamp, .int .i64 d.lib, .slice a d.kids.length cap] := by simp [flatT]
  rw [e1, List.length_append]
  exact hown
 ·rcases List.mem_append.1 he with he | he
  ·obtain ⟨hn, f, hd⟩ := h.kids e he
   refine ⟨hn, f, Dw.stay (fun k hk => hold k hk.2.1 hk.2.2) (fun k hk => ⟨hk.1, Nat.lt_of_lt_of_le hk.2.1 hle, hnew k hk.2.1 hk.2.2⟩) f _ _ _ hd⟩
  ·simp at he
   subst he
   have hne : ∀ k, NewT wr w k → some k ≠ v.ownBlock := by
    intro k hk e
    have := hv k e.symm
    have := hk.1
    omega
   exact ⟨hn, f, Dw.stay (fun k hk => hold k hk.2 (hne k hk)) (fun k hk => ⟨by have := hk.1; omega, Nat.lt_of_lt_of_le hk.2 hle, hnew k hk.2 (hne k hk)⟩) f _ _ _ hd⟩

theorem Row.lie {B : Nat} {v : Value} {es : List (Dat × Option Addr × Nat)} {w : World} (h : Row B v es w) (hlen : es.length ≤ 9223372036854775807) : ∃ a cap f, v = .slice a (es.map (·.1)).length cap ∧ Dw (fun b => B ≤ b ∧ b < w.heap.size) w f a cap (es.map (·.1)) := by
 -- one depth for all
 have hfuel : ∃ F, ∀ e ∈ es, Dw (fun b => B ≤ b ∧ b < w.heap.size) w F e.2.1 e.2.2 e.1.kids := by
  have aux : ∀ (l : List (Dat × Option Addr × Nat)), (∀ e ∈ l, ∃ f, Dw (fun b => B ≤ b ∧ b < w.heap.size) w f e.2.1 e.2.2 e.1.kids) → ∃ F, ∀ e ∈ l, Dw (fun b => B ≤ b ∧ b < w.heap.size) w F e.2.1 e.2.2 e.1.kids := by
   intro l
   induction l with
   | nil => exact fun _ => ⟨0, by simp⟩
   | cons x r ih =>
    intro hx
    obtain ⟨F, hF⟩ := ih (fun e he => hx e (List.mem_cons_of_mem _ he))
    obtain ⟨f, hf⟩ := hx x (by simp)
    refine ⟨f + F, fun e he => ?_⟩
    rcases List.mem_cons.1 he with rfl | he
    ·exact hf.upto F
    ·have := (hF e he).upto f
     rwa [Nat.add_comm] at this
  refine aux es (fun e he => ?_)
  obtain ⟨_, f, hd⟩ := h.kids e he
  exact ⟨f, Dw.stay (fun _ _ => rfl) (fun k hk => ⟨hk.1, hk.2.1⟩) f _ _ _ hd⟩
 obtain ⟨F, hF⟩ := hfuel
 rcases h.own.2 with ⟨rfl, h0⟩ | ⟨g, cap, cur, rfl, hbg, hg, hnc, hcm, hcs, htake⟩
 ·have : es = [] := List.length_eq_zero_iff.1 h0
  subst this
  exact ⟨none, 0, 0, rfl, rfl⟩
 ·refine ⟨some ⟨g, 0, none⟩, cap, F + 1, by simp, ?_⟩
  refine ⟨⟨by simp; exact hlen, by simpa using hnc⟩, ?_⟩
  refine Or.inr ⟨g, 0, rfl, ⟨hbg, (Array.getElem?_eq_some_iff.1 hg).1⟩, ?_⟩
  intro i d hd
  rw [List.getElem?_map] at hd
  obtain ⟨e, he, rfl⟩ := Option.map_eq_some_iff.1 hd
  have hmem : e ∈ es := List.mem_of_getElem? he
  have hcell : ∀ j u, (flatT es)[j]? = some u → w.cell? ⟨g, j, none⟩ = some u := by
   intro j u hu
   have := h.own.cells (g := g) rfl j u hu
   have hadd : (⟨g, 0, none⟩ : Addr).add j = ⟨g, j, none⟩ := by unfold Addr.add; split <;> simp_all
   rwa [hadd] at this
  have hflat : ∀ k, k < 6 → (flatT es)[i * 6 + k]? = [Value.int .i64 e.1.kind, .int .i64 e.1.n, .string e.1.name, .int .i64 e.1.stamp, .int .i64 e.1.lib, .slice e.2.1 e.1.kids.length e.2.2][k]? := by
   have aux : ∀ (l : List (Dat × Option Addr × Nat)) (i : Nat), l[i]? = some e → ∀ k, k < 6 → (flatT l)[i * 6 + k]? = [Value.int .i64 e.1.kind, .int .i64 e.1.n, .string e.1.name, .int .i64 e.1.stamp, .int .i64 e.1.lib, .slice e.2.1 e.1.kids.length e.2.2][k]? := by
    intro l
    induction l with
    | nil => intro i hi; simp at hi
    | cons x r ih =>
     intro i hi k hk
     have e1 : flatT (x :: r) = [Value.int .i64 x.1.kind, .int .i64 x.1.n, .string x.1.name, .int .i64 x.1.stamp, .int .i64 x.1.lib, .slice x.2.1 x.1.kids.length x.2.2] ++ flatT r := by simp [flatT]
     rw [e1]
     cases i with
     | zero =>
      simp at hi
      subst hi
      rw [List.getElem?_append_left (by simp; omega)]
      simp
     | succ i =>
      rw [List.getElem?_append_right (by simp; omega)]
      have := ih i (by simpa using hi) k hk
      rw [← this]
      congr 1
      simp
      omega
   exact aux es i he
  refine ⟨e.2.1, e.2.2, ?_, ?_, ?_, ?_, ?_, ?_, (h.kids e hmem).1, hF e hmem⟩
  all_goals rw [Nat.zero_add]
  ·exact hcell _ _ (hflat 0 (by decide))
  ·exact hcell _ _ (hflat 1 (by decide))
  ·exact hcell _ _ (hflat 2 (by decide))
  ·exact hcell _ _ (hflat 3 (by decide))
  ·exact hcell _ _ (hflat 4 (by decide))
  ·exact hcell _ _ (hflat 5 (by decide))
end
section
open Go.RowKit

def pre (ds : List Dat) : Rd (List Dat) → Rd (List Dat)
 | .inl e => .inl e
 | .inr (es, j, m) => .inr (ds ++ es, j, m)

def asList : Rd (List Dat) → Rd Dat
 | .inl e => .inl e
 | .inr (ds, j, m) => .inr (datList ds, j, m)

theorem pre_nil (r : Rd (List Dat)) : pre [] r = r := by
 cases r with
 | inl e => rfl
 | inr x => rfl

theorem pre_pre (a b : List Dat) (r : Rd (List Dat)) : pre a (pre b r) = pre (a ++ b) r := by
 cases r with
 | inl e => rfl
 | inr x => simp [pre]

section
variable {g : Nat → Nat → Rd Dat} {l : List UInt8} {k j m p : Nat}
theorem items_none (hp : p = j + skipL (l.drop j) false) (h : l[p]? = none) : items g l (k + 1) j m = .inl (2, (p : Int)) := by
 subst hp
 unfold items
 simp only
 rw [h]
theorem items_close (hp : p = j + skipL (l.drop j) false) (h : l[p]? = some 41) : items g l (k + 1) j m = .inr ([], p + 1, m) := by
 subst hp
 unfold items
 simp only
 rw [h]
 rfl
theorem items_bad {c : UInt8} {x : Int × Int} (hp : p = j + skipL (l.drop j) false) (h : l[p]? = some c) (hc : c ≠ 41) (hg : g p m = .inl x) : items g l (k + 1) j m = .inl x := by
 subst hp
 unfold items
 simp only
 rw [h]
 simp only
 rw [if_neg hc, hg]
theorem items_step {c : UInt8} {d : Dat} {j' m' : Nat} (hp : p = j + skipL (l.drop j) false) (h : l[p]? = some c) (hc : c ≠ 41) (hg : g p m = .inr (d, j', m')) : items g l (k + 1) j m = pre [d] (items g l k j' m') := by
 subst hp
 conv => lhs; unfold items
 simp only
 rw [h]
 simp only
 rw [if_neg hc, hg]
 simp only
 cases items g l k j' m' with
 | inl e => rfl
 | inr x => rfl
end

theorem Keep.grown {c : Nat} {a b d : World} {row : Option Nat} (h : Keep c a b) (hg : b.grownBy d row) (hr : ∀ k, row = some k → a.heap.size ≤ k) : Keep c a d :=
 ⟨hg.os.trans h.os, hg.tape.trans h.tape, hg.output.trans h.output, Nat.le_trans h.size hg.size, fun i hi hc => (hg.block i (Nat.lt_of_lt_of_le hi h.size) (fun e => by have := hr i e.symm; omega)).trans (h.block i hi hc)⟩

theorem Rdr.grown {rb : Nat} {s : ByteArray} {i n : Nat} {w w' : World} {row : Option Nat} (h : Rdr rb s i n w) (hg : w.grownBy w' row) (hr : some rb ≠ row) : Rdr rb s i n w' := by
 have e : ∀ q, w'.cell? ⟨rb, q, none⟩ = w.cell? ⟨rb, q, none⟩ := fun q => World.cell?_of_block (hg.block rb h.lt hr)
 have z : ∀ q, w'.frozen? ⟨rb, q, none⟩ = w.frozen? ⟨rb, q, none⟩ := fun q => World.frozen?_of_block (hg.block rb h.lt hr)
 exact ⟨Nat.lt_of_lt_of_le h.lt hg.size, (e _).trans h.c0, (e _).trans h.c1, (e _).trans h.c2, (z _).trans h.z1, (z _).trans h.z2⟩

theorem Six.grown {N : Nat} {w w' : World} {row : Option Nat} (h : Six N w) (hg : w.grownBy w' row) (hr : some N ≠ row) : Six N w' := by
 have e : ∀ q, w'.cell? ⟨N, q, none⟩ = w.cell? ⟨N, q, none⟩ := fun q => World.cell?_of_block (hg.block N h.lt hr)
 have z : ∀ q, w'.frozen? ⟨N, q, none⟩ = w.frozen? ⟨N, q, none⟩ := fun q => World.frozen?_of_block (hg.block N h.lt hr)
 exact ⟨Nat.lt_of_lt_of_le h.lt hg.size, (e _).trans h.q0, (e _).trans h.q1, (e _).trans h.q2, (e _).trans h.q3, (e _).trans h.q4, (e _).trans h.q5, fun j => (z _).trans (h.z j)⟩

theorem six_heapT (w : World) (N : Nat) (v0 v1 v2 v3 v4 v5 : Value) : (∀ b, b ≠ N → ((((((w.setCell ⟨N, 0, none⟩ v0).setCell ⟨N, 1, none⟩ v1).setCell ⟨N, 2, none⟩ v2).setCell ⟨N, 3, none⟩ v3).setCell ⟨N, 4, none⟩ v4).setCell ⟨N, 5, none⟩ v5).heap[b]? = w.heap[b]?) ∧
  ((((((w.setCell ⟨N, 0, none⟩ v0).setCell ⟨N, 1, none⟩ v1).setCell ⟨N, 2, none⟩ v2).setCell ⟨N, 3, none⟩ v3).setCell ⟨N, 4, none⟩ v4).setCell ⟨N, 5, none⟩ v5).heap.size = w.heap.size := by
 refine ⟨fun b hb => ?_, by simp [World.setCell]⟩
 rw [Below.heap_setCell _ _ _ _ hb, Below.heap_setCell _ _ _ _ hb, Below.heap_setCell _ _ _ _ hb, Below.heap_setCell _ _ _ _ hb, Below.heap_setCell _ _ _ _ hb, Below.heap_setCell _ _ _ _ hb]

theorem infoDatT : (Tryz.prog.info? 26).map (fun i => (i.zero, i.size, i.bytes)) = some (some (.agg #[.int .i64 0, .int .i64 0, .string ⟨#[]⟩, .int .i64 0, .int .i64 0, .slice none 0 0]), 6, 72) := by kernel_rfl

structure Lst (l : List UInt8) (s : ByteArray) (f rb N : Nat) (w : World) (i n : Nat) (g : Nat) (v : Value) (wr : World) (es : List (Dat × Option Addr × Nat)) (j k m p : Nat) : Prop where
 pos : p = j + skipL (l.drop j) false
 ple : p ≤ s.size
 jle : j ≤ l.length
 mle : m ≤ 2000
 few : es.length ≤ m
 fuel : l.length + 2 ≤ j + k
 ghost : g = s.size - p
 keep : Keep rb w wr
 rdr : Rdr rb s p m wr
 row : Row (N + 1) v es wr
 six : Six N wr
 same : items (one l f) l (l.length + 1) (i + 1) n = pre (es.map (·.1)) (items (one l f) l k j m)

set_option maxRecDepth 100000 in
set_option maxHeartbeats 6400000 in
theorem list_read (rb : Nat) (s : ByteArray) (f i n : Nat) (dp : Int) (w : World) (h : Rdr rb s i n w) (hi : i < s.size) (hs : s.size ≤ 6000) (hn : n ≤ 2000) (hd0 : 1 ≤ dp) (hd : dp ≤ 40)
  (ih : ∀ (i n : Nat) (w : World), Rdr rb s i n w → i ≤ s.size → n ≤ 2000 → Calls Tryz.prog 73 #[.pointer (some ⟨rb, 0, none⟩), .int .i64 (dp + 1)] w (Out rb s (one s.data.toList f i n) w)) :
  Calls Tryz.prog 98 #[.pointer (some ⟨rb, 0, none⟩), .int .i64 dp] w (Out rb s (asList (items (one s.data.toList f) s.data.toList (s.data.toList.length + 1) (i + 1) n)) w) := by
 have IH : Hid (∀ (i n : Nat) (w : World), Rdr rb s i n w → i ≤ s.size → n ≤ 2000 → Calls Tryz.prog 73 #[.pointer (some ⟨rb, 0, none⟩), .int .i64 (dp + 1)] w (Out rb s (one s.data.toList f i n) w)) := ih
 have HLEN : Hid (s.data.toList.length = s.size) := Array.length_toList
 have c1 := h.c1
 have z1 := h.z1
 have l1 := h.lt
 have HR : Hid (Rdr rb s i n w) := h
 clear h ih
 obtain ⟨l, hl⟩ : ∃ l, l = s.data.toList := ⟨_, rfl⟩
 have HLL : Hid (l = s.data.toList) := hl
 rw [← hl] at IH HLEN ⊢
 clear hl
 obtain ⟨i0, hinf, hz0, hz1, hz2⟩ := info_parts infoDatT
 go_enter Tryz.func98, Tryz.ntmps98
 go_wp2_with fail
 refine (skip_any rb s (i + 1) n _ ((HR.out.move' (i + 1) _ (by omega)).alloc _) (by omega) hs).mono ?_
 rintro e w1 ⟨rfl, hk1, hr1⟩
 have hsix : Six w.heap.size w1 := by
  have h1 := Six.made (w.setCell ⟨rb, 1, none⟩ (.int .i64 ((i : Int) + 1)))
  have h2 : (w.setCell ⟨rb, 1, none⟩ (.int .i64 ((i : Int) + 1))).heap.size = w.heap.size := by simp [World.setCell]
  rw [h2] at h1
  exact h1.keep hk1 (by omega)
 have START : Hid (Lst l s f rb w.heap.size w i n (s.size - ((i + 1) + skipL (l.drop (i + 1)) false)) (.slice none 0 0) w1 [] (i + 1) (l.length + 1) n ((i + 1) + skipL (l.drop (i + 1)) false)) := by
  have hle := skip_le l (i + 1) (by rw [HLEN.out]; omega)
  rw [HLEN.out] at hle
  refine ⟨rfl, hle, by rw [HLEN.out]; omega, hn, by simp, by omega, rfl, ((((Keep.refl _ _).setCell ⟨rb, 1, none⟩ rfl _).alloc _)).trans hk1, by rw [HLL.out]; exact hr1, Row.nil _ _, hsix, (pre_nil _).symm⟩
 clear hk1 hr1 hsix c1 z1 HR
 go_wp2_with fail
 go_loopg [5] (s.size - ((i + 1) + skipL (l.drop (i + 1)) false)) (fun g v wr => ∃ es j k m p, Lst l s f rb w.heap.size w i n g v wr es j k m p)
 case atStart => exact ⟨_, _, _, _, _, START.out⟩
 case round =>
  clear START
  obtain ⟨es, j, k, m, p, hlst⟩ := hrel
  have HL : Hid (Lst l s f rb w.heap.size w i n gk u5 wr es j k m p) := hlst
  have hp := hlst.ple
  have hgk := hlst.ghost
  have hsz := hlst.keep.size
  have en := ended_any rb s p m wr hlst.rdr
  obtain ⟨k', hk'⟩ : ∃ k', k = k' + 1 := ⟨k - 1, by have := hlst.fuel; have := hlst.jle; omega⟩
  have HK : Hid (k = k' + 1) := hk'
  clear hk' hlst
  by_cases hlt : p < s.size
  ·rw [show ((p : Int) == (s.size : Int)) = false from by simp; omega] at en
   have EN : Hid (Calls Tryz.prog 72 #[.pointer (some ⟨rb, 0, none⟩)] wr fun e w' => e = .returned (.bool false) ∧ Below wr.heap.size wr w') := en
   clear en
   have HAT : Hid (l[p]? = some s[p]) := by
    have := at_of hlt
    rw [← HLL.out] at this
    exact this
   go_wp2_with fail
   refine EN.out.mono ?_
   rintro e w2 ⟨rfl, hb2⟩
   have hr2 := HL.out.rdr.below hb2
   have c0 := hr2.c0
   have c1 := hr2.c1
   have z1 := hr2.z1
   have HR2 : Hid (Keep rb w w2 ∧ Rdr rb s p m w2 ∧ Row (w.heap.size + 1) u5 es w2 ∧ Six w.heap.size w2) := ⟨HL.out.keep.below hb2, hr2, HL.out.row.below hb2, HL.out.six.after hb2⟩
   have hs2 := hb2.size
   clear hb2 hr2 EN
   go_wp2_with fail
   go_quiet (fail)
   by_cases b1 : ((s[p].toNat : Int) == 41) = true
   ·have HC : Hid (s[p] = 41) := UInt8.toNat_inj.1 (by have : (s[p].toNat : Int) = 41 := beq_iff_eq.1 b1; show s[p].toNat = 41; omega)
    have HQ : Hid (items (one l f) l (l.length + 1) (i + 1) n = .inr (es.map (·.1), p + 1, m)) := by
     show items (one l f) l (l.length + 1) (i + 1) n = .inr (es.map (·.1), p + 1, m)
     have h1 := HAT.out
     rw [HC.out] at h1
     rw [HL.out.same, HK.out, items_close HL.out.pos h1]
     simp [pre]
    obtain ⟨a', cap', f', hv, hdw⟩ := HR2.out.2.2.1.lie (by have := HL.out.few; have := HL.out.mle; omega)
    have HDW : Hid (Dw (fun b => w.heap.size + 1 ≤ b ∧ b < w2.heap.size) w2 f' a' cap' (es.map (·.1))) := hdw
    obtain ⟨x0, x1, x2, x3, x4, x5, x6, x7⟩ := HR2.out.2.2.2
    subst hv
    clear hdw
    go_wp2_with fail
    refine bodyPost_ret (v := dv (datList (es.map (·.1))) a' cap') (by simp [results, Tryz.results98, go_sem, dv, datList, x1, x2, x3, x4, x5, x6]) rfl ?_
    rw [HQ.out]
    refine ⟨?_, ?_, a', cap', f', rfl, ?_⟩
    ·exact keep_six ((HR2.out.1.drewN _).setCell ⟨rb, 1, none⟩ rfl _) (Nat.le_refl _) _ _ _ _ _ _
    ·exact (((HR2.out.2.1.drewN _).move' _ _ (by omega)).six (by omega) _ _ _ _ _ _)
    ·have hh := six_heapT ((w2.drewN nq).setCell ⟨rb, 1, none⟩ (.int .i64 ((p : Int) + 1))) w.heap.size (.int .i64 4) (.int .i64 0) (.string ⟨#[]⟩) (.int .i64 0) (.int .i64 0) (.slice a' es.length cap')
     refine Dw.stay ?_ ?_ f' _ _ _ HDW.out
     ·intro b hb
      refine (hh.1 b (by have := hb.1; omega)).trans ?_
      exact Below.heap_setCell _ _ _ _ (by have := hb.1; show b ≠ rb; omega)
     ·intro b hb
      refine ⟨by have := hb.1; omega, ?_⟩
      rw [hh.2]
      simp only [World.setCell, Array.size_modify]
      exact hb.2
   ·have n1 : ((s[p].toNat : Int) == 41) = false := by simpa using b1
    clear b1
    have HC : Hid (s[p] ≠ 41) := by
     intro e
     rw [e] at n1
     exact absurd n1 (by decide)
    go_wp2_with fail
    refine (IH.out p m _ (HR2.out.2.1.drewN _) hp (HL.out.mle)).mono ?_
    intro e w3 hout
    cases ho : one l f p m with
    | inl x =>
     rw [ho] at hout
     obtain ⟨rfl, hk3⟩ := hout
     have HQ : Hid (items (one l f) l (l.length + 1) (i + 1) n = .inl x) := by
      show items (one l f) l (l.length + 1) (i + 1) n = .inl x
      rw [HL.out.same, HK.out, items_bad HL.out.pos HAT.out HC.out ho]
      rfl
     have hkk : Keep rb w w3 := (HR2.out.1.drewN _).trans hk3
     clear hk3 ho
     go_wp2_with fail
     refine ⟨rfl, ?_⟩
     rw [HQ.out]
     exact ⟨rfl, hkk⟩
    | inr y =>
     obtain ⟨d, j', m'⟩ := y
     rw [ho] at hout
     obtain ⟨hk3, hr3, a', cap', f', rfl, hdw⟩ := hout
     have hw := one_went l f p m d j' m' (by rw [HLEN.out]; exact hp) HL.out.mle ho
     have HWT : Hid (Went l p m j' m' d) := hw
     have HQ : Hid (items (one l f) l (l.length + 1) (i + 1) n = pre (es.map (·.1) ++ [d]) (items (one l f) l k' j' m')) := by
      show items (one l f) l (l.length + 1) (i + 1) n = pre (es.map (·.1) ++ [d]) (items (one l f) l k' j' m')
      rw [HL.out.same, HK.out, items_step HL.out.pos HAT.out HC.out ho, pre_pre]
     have H3 : Hid (Keep rb w w3 ∧ Rdr rb s j' m' w3 ∧ Row (w.heap.size + 1) u5 es w3 ∧ Six w.heap.size w3 ∧ Dw (NewT (w2.drewN nq) w3) w3 f' a' cap' d.kids) := by
      refine ⟨(HR2.out.1.drewN _).trans hk3, hr3, ?_, ?_, hdw⟩
      ·exact (HR2.out.2.2.1.below (below_drewN (Below.refl _ _) nq)).keep hk3 (by omega)
      ·exact (HR2.out.2.2.2.after (below_drewN (Below.refl _ _) nq)).keep hk3 (by omega)
     have hs3 := hk3.size
     have hs3' : w2.heap.size ≤ w3.heap.size := hs3
     unfold dv
     clear hk3 hr3 hdw hw ho hs3 c0 c1 z1
     go_wp2_with (at_builtin; refine wpList_append_whereT rfl _ _ 24 rfl (w.heap.size + 1) 26 i0 _ 6 72 Tryz.underlying24 hinf hz0 hz1 hz2 rfl (by decide) u5 es.length (flatT es) rfl (by exact H3.out.2.2.1.own.alloc _) ⟨w3.heap.size, 0, none⟩ 1 1 [.int .i64 d.kind, .int .i64 d.n, .string d.name, .int .i64 d.stamp, .int .i64 d.lib, .slice a' d.kids.length cap'] rfl rfl ?c1 ?c2 (by decide) ?c3 ?c4 ?c5 ?_)
     case c1 =>
      intro q u hq
      have hcell := World.cell?_alloc_mark w3 #[.int .i64 d.kind, .int .i64 d.n, .string d.name, .int .i64 d.stamp, .int .i64 d.lib, .slice a' d.kids.length cap'] 26 (0, 0) q
      have hadd : (⟨w3.heap.size, 0, none⟩ : Addr).add q = ⟨w3.heap.size, q, none⟩ := by unfold Addr.add; split <;> simp_all
      rw [hadd, hcell]
      simpa using hq
     case c2 =>
      intro u hu
      simp at hu
      rcases hu with rfl | rfl | rfl | rfl | rfl | rfl <;> rfl
     case c3 => have := HL.out.few; have := HL.out.mle; unfold maxLen; omega
     case c4 => have := HL.out.few; have := HL.out.mle; omega
     case c5 => simp; omega
     intro v' w4 hown4 hg4 hw4
     have HROW : Hid (Row (w.heap.size + 1) v' (es ++ [(d, a', cap')]) w4) := by
      refine Row.push (wr := w2) _ H3.out.2.2.1 (by have := HR2.out.2.2.2.lt; omega) (fun k hk => (HR2.out.2.2.1.own.lt k hk).2) H3.out.2.2.2.2 (by have := HWT.out.name; unfold maxLen; omega) hown4 hg4 hw4
     have hrow : ∀ k, u5.ownBlock = some k → w.heap.size + 1 ≤ k := fun k hk => (HR2.out.2.2.1.own.lt k hk).1
     have H4 : Hid (Keep rb w w4 ∧ Rdr rb s j' m' w4 ∧ Six w.heap.size w4) := by
      refine ⟨(H3.out.1.alloc _).grown hg4 (fun k hk => by have := hrow k hk; omega), (H3.out.2.1.alloc _).grown hg4 ?_, (H3.out.2.2.2.1.alloc _).grown hg4 ?_⟩
      ·intro e
       have := hrow rb e.symm
       omega
      ·intro e
       have := hrow w.heap.size e.symm
       omega
     have hs4 : w.heap.size ≤ w4.heap.size := H4.out.1.size
     clear hown4 hg4 hw4 hrow H3
     obtain ⟨ao, ln, cp, hv'⟩ : ∃ ao ln cp, v' = .slice ao ln cp := by
      rcases HROW.out.own.2 with ⟨hv, _⟩ | ⟨gg, cap, cur, hv, _⟩
      ·exact ⟨_, _, _, hv⟩
      ·exact ⟨_, _, _, hv⟩
     subst hv'
     go_wp2_with fail
     refine (skip_any rb s j' m' _ H4.out.2.1 (by have := HWT.out.upto; rw [HLEN.out] at this; exact this) hs).mono ?_
     rintro e w5 ⟨rfl, hk5, hr5⟩
     have H5 : Hid (Lst l s f rb w.heap.size w i n (s.size - (j' + skipL (l.drop j') false)) (.slice ao ln cp) w5 (es ++ [(d, a', cap')]) j' k' m' (j' + skipL (l.drop j') false)) := by
      have hup := HWT.out.upto
      have hle := skip_le l j' hup
      have hfu := HL.out.fuel
      have hkk := HK.out
      have hpo := HL.out.pos
      have hon := HWT.out.on
      have hmo := HWT.out.more
      have hfe := HL.out.few
      rw [HLEN.out] at hle
      refine ⟨rfl, hle, hup, HWT.out.much, by simp; omega, by omega, rfl, H4.out.1.trans hk5, by rw [HLL.out]; exact hr5, HROW.out.keep hk5 (by omega), H4.out.2.2.keep hk5 (by omega), ?_⟩
      rw [HQ.out]
      simp
     clear hk5 hr5
     go_wp2_with fail
     go_roundg (s.size - (j' + skipL (l.drop j') false))
     case measure => have := HWT.out.on; have := H5.out.ple; omega
     case rel => exact ⟨_, _, _, _, _, H5.out⟩
  ·obtain rfl : p = s.size := by omega
   rw [show ((s.size : Int) == (s.size : Int)) = true from by simp] at en
   have EN : Hid (Calls Tryz.prog 72 #[.pointer (some ⟨rb, 0, none⟩)] wr fun e w' => e = .returned (.bool true) ∧ Below wr.heap.size wr w') := en
   clear en
   have HQ : Hid (items (one l f) l (l.length + 1) (i + 1) n = .inl (2, (s.size : Int))) := by
    show items (one l f) l (l.length + 1) (i + 1) n = .inl (2, (s.size : Int))
    rw [HL.out.same, HK.out, items_none HL.out.pos (by rw [List.getElem?_eq_none (by rw [HLEN.out]; exact Nat.le_refl _)])]
    rfl
   go_wp2_with fail
   refine EN.out.mono ?_
   rintro e w2 ⟨rfl, hb2⟩
   have H2 : Hid (Keep rb w w2 ∧ Rdr rb s s.size m w2) := ⟨HL.out.keep.below hb2, HL.out.rdr.below hb2⟩
   clear hb2 EN
   go_wp2_with fail
   refine (fault_any rb s s.size m 2 _ H2.out.2).mono ?_
   rintro e w3 ⟨rfl, hb3⟩
   have hk3 : Keep rb w w3 := H2.out.1.below hb3
   clear hb3
   go_wp2_with fail
   refine ⟨rfl, ?_⟩
   rw [HQ.out]
   exact ⟨rfl, hk3⟩
end
end Go.Proofs.YtonafbennobgdaaGreatDoor
