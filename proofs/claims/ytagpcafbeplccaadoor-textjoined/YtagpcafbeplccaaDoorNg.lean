/- The law TextJoined, walked. -/
import Derived.Test.YtagpcafbeplccaaDoorNa
import Derived.Test.YtagpcafbeplccaaDoorLp
namespace Go.Proofs.YtagpcafbeplccaaDoor
set_option linter.unusedVariables false
set_option linter.unusedSimpArgs false
open Go.RowKit

set_option maxRecDepth 100000 in
set_option maxHeartbeats 1600000 in
theorem TextJoined_bad1 (B : Nat) (s t : ByteArray) (w : World) (hs : s.size ≤ 140737488351232) (hn : t.size ≤ 140737488351232) (hB : B ≤ w.heap.size) (ht : Tab B w) (x : Int × Int) (hx : readL s.data.toList = .inl x) :
    Calls Tryd.prog 6 #[.string s, .string t] w (Yes w) := by
  have AL : Hid (∀ w', Below w.heap.size w w' → Calls Tryd.prog 17 #[] w' (Yes w')) := fun w' hb => alive_any B w' (Nat.le_trans hB hb.size) (ht.below (hb.mono hB))
  have RS : Hid (∀ w, Calls Tryd.prog 8 #[.string s] w fun e w' => Below w.heap.size w w' ∧ e = .returned (.tuple #[.slice none 0 0, .agg #[.int .i64 x.1, .int .i64 x.2]])) := fun w => Read_no s w (by unfold maxLen; omega) x hx
  have hx0 : (x.1 != 0) = true := by simpa using read_fault hx
  have RT : Hid (∀ w, Calls Tryd.prog 8 #[.string t] w fun e w' => Below w.heap.size w w' ∧ ∃ (a : Option Addr) (n cap : Nat) (y1 y2 : Int), e = .returned (.tuple #[.slice a n cap, .agg #[.int .i64 y1, .int .i64 y2]])) := fun w => by
    refine (Read_any t w (by unfold maxLen; omega)).mono ?_
    rintro e w' ⟨hb, ho⟩
    cases hr : readL t.data.toList with
    | inl y =>
      rw [hr] at ho
      exact ⟨hb, none, 0, 0, y.1, y.2, ho⟩
    | inr ds =>
      rw [hr] at ho
      obtain ⟨a, cap, f, he, _⟩ := ho
      exact ⟨hb, a, ds.length, cap, 0, 0, he⟩
  obtain ⟨x1, x2⟩ := x
  simp only at hx0 RS
  clear ht hx
  go_enter Tryd.func6, Tryd.ntmps6
  go_wp2_with fail
  refine (AL.out _ (Below.refl _ _)).mono ?_
  rintro e w1 ⟨rfl, h1⟩
  have HB1 : Hid (Below w.heap.size w w1) := h1
  have hz1 := h1.size
  clear h1 AL
  go_wp2_with fail
  refine (RS.out _).mono ?_
  rintro e w2 ⟨h2, rfl⟩
  have HB2 : Hid (Below w.heap.size w w2) := HB1.out.trans (h2.mono hz1)
  have hz2 : w.heap.size ≤ w2.heap.size := HB2.out.size
  clear h2 RS HB1
  go_wp2_with fail
  refine (RT.out _).mono ?_
  rintro e w3 ⟨h3, a, n, cap, y1, y2, rfl⟩
  have q0 : w3.cell? ⟨w2.heap.size, 0, none⟩ = some (.int .i64 x1) := box_cell h3 rfl 0
  have hz3 : w2.heap.size + 1 ≤ w3.heap.size := by have := h3.size; simpa using this
  have HB3 : Hid (Below w.heap.size w w3) := (HB2.out.alloc hz2 _).trans (h3.mono (by simp; omega))
  have q0' := Lib.cell?_alloc_marked (Obj.cells #[.int .i64 y1, .int .i64 y2] 25) q0
  clear h3 RT HB2
  go_wp2_with fail
  go_ret
  exact ⟨rfl, HB3.out.alloc (by omega) _⟩

set_option maxRecDepth 100000 in
set_option maxHeartbeats 1600000 in
theorem TextJoined_bad2 (B : Nat) (s t : ByteArray) (w : World) (hs : s.size ≤ 140737488351232) (hn : t.size ≤ 140737488351232) (hB : B ≤ w.heap.size) (ht : Tab B w) (ds : List Dat) (hd : readL s.data.toList = .inr ds) (x : Int × Int) (hx : readL t.data.toList = .inl x) :
    Calls Tryd.prog 6 #[.string s, .string t] w (Yes w) := by
  have AL : Hid (∀ w', Below w.heap.size w w' → Calls Tryd.prog 17 #[] w' (Yes w')) := fun w' hb => alive_any B w' (Nat.le_trans hB hb.size) (ht.below (hb.mono hB))
  have RT : Hid (∀ w, Calls Tryd.prog 8 #[.string t] w fun e w' => Below w.heap.size w w' ∧ e = .returned (.tuple #[.slice none 0 0, .agg #[.int .i64 x.1, .int .i64 x.2]])) := fun w => Read_no t w (by unfold maxLen; omega) x hx
  have hx0 : (x.1 != 0) = true := by simpa using read_fault hx
  have RS : Hid (∀ w, Calls Tryd.prog 8 #[.string s] w fun e w' => Below w.heap.size w w' ∧ ∃ a cap f, e = .returned (.tuple #[.slice a ds.length cap, .agg #[.int .i64 0, .int .i64 0]]) ∧ Lies w'.heap.size w' f a ds) := fun w => Read_ok s w (by unfold maxLen; omega) ds hd
  obtain ⟨x1, x2⟩ := x
  simp only at hx0 RT
  clear ht hx hd
  go_enter Tryd.func6, Tryd.ntmps6
  go_wp2_with fail
  refine (AL.out _ (Below.refl _ _)).mono ?_
  rintro e w1 ⟨rfl, h1⟩
  have HB1 : Hid (Below w.heap.size w w1) := h1
  have hz1 := h1.size
  clear h1 AL
  go_wp2_with fail
  refine (RS.out _).mono ?_
  rintro e w2 ⟨h2, a, cap, f, rfl, _⟩
  have HB2 : Hid (Below w.heap.size w w2) := HB1.out.trans (h2.mono hz1)
  have hz2 : w.heap.size ≤ w2.heap.size := HB2.out.size
  clear h2 RS HB1
  go_wp2_with fail
  refine (RT.out _).mono ?_
  rintro e w3 ⟨h3, rfl⟩
  have q0 : w3.cell? ⟨w2.heap.size, 0, none⟩ = some (.int .i64 0) := box_cell h3 rfl 0
  have hz3 : w2.heap.size + 1 ≤ w3.heap.size := by have := h3.size; simpa using this
  have HB3 : Hid (Below w.heap.size w w3) := (HB2.out.alloc hz2 _).trans (h3.mono (by simp; omega))
  have q0' := Lib.cell?_alloc_marked (Obj.cells #[.int .i64 x1, .int .i64 x2] 25) q0
  clear h3 RT HB2
  go_wp2_with fail
  go_ret
  exact ⟨rfl, HB3.out.alloc (by omega) _⟩

set_option maxRecDepth 100000 in
set_option maxHeartbeats 1600000 in
theorem TextJoined_big (B : Nat) (s t : ByteArray) (w : World) (hs : s.size ≤ 140737488351232) (hn : t.size ≤ 140737488351232) (hB : B ≤ w.heap.size) (ht : Tab B w) (ds es : List Dat) (hd : readL s.data.toList = .inr ds) (he : readL t.data.toList = .inr es)
    (hbig : (6000 : Int) < (s.size : Int) + (t.size : Int) + 1) :
    Calls Tryd.prog 6 #[.string s, .string t] w (Yes w) := by
  have AL : Hid (∀ w', Below w.heap.size w w' → Calls Tryd.prog 17 #[] w' (Yes w')) := fun w' hb => alive_any B w' (Nat.le_trans hB hb.size) (ht.below (hb.mono hB))
  have RT : Hid (∀ w, Calls Tryd.prog 8 #[.string t] w fun e w' => Below w.heap.size w w' ∧ ∃ a cap f, e = .returned (.tuple #[.slice a es.length cap, .agg #[.int .i64 0, .int .i64 0]]) ∧ Lies w'.heap.size w' f a es) := fun w => Read_ok t w (by unfold maxLen; omega) es he
  have RS : Hid (∀ w, Calls Tryd.prog 8 #[.string s] w fun e w' => Below w.heap.size w w' ∧ ∃ a cap f, e = .returned (.tuple #[.slice a ds.length cap, .agg #[.int .i64 0, .int .i64 0]]) ∧ Lies w'.heap.size w' f a ds) := fun w => Read_ok s w (by unfold maxLen; omega) ds hd
  clear ht hd he
  go_enter Tryd.func6, Tryd.ntmps6
  go_wp2_with fail
  refine (AL.out _ (Below.refl _ _)).mono ?_
  rintro e w1 ⟨rfl, h1⟩
  have HB1 : Hid (Below w.heap.size w w1) := h1
  have hz1 := h1.size
  clear h1 AL
  go_wp2_with fail
  refine (RS.out _).mono ?_
  rintro e w2 ⟨h2, a, cap, f, rfl, _⟩
  have HB2 : Hid (Below w.heap.size w w2) := HB1.out.trans (h2.mono hz1)
  have hz2 : w.heap.size ≤ w2.heap.size := HB2.out.size
  clear h2 RS HB1
  go_wp2_with fail
  refine (RT.out _).mono ?_
  rintro e w3 ⟨h3, a3, cap3, f3, rfl, _⟩
  have q0 : w3.cell? ⟨w2.heap.size, 0, none⟩ = some (.int .i64 0) := box_cell h3 rfl 0
  have hz3 : w2.heap.size + 1 ≤ w3.heap.size := by have := h3.size; simpa using this
  have HB3 : Hid (Below w.heap.size w w3) := (HB2.out.alloc hz2 _).trans (h3.mono (by simp; omega))
  have q0' := Lib.cell?_alloc_marked (Obj.cells #[.int .i64 0, .int .i64 0] 25) q0
  clear h3 RT HB2
  go_wp2_with fail
  go_ret
  exact ⟨rfl, HB3.out.alloc (by omega) _⟩

/-- An append of a slice, be it none, to a row of the call's own. -/
theorem wpList_append_any {P : Program} {w : World} {ops : Array Oper} {rest : List Oper} {o : Oper} {a : Act} {Q : Exit → Act → World → Prop} (hwant : Region.wanted o (yielded ops a.tmps) = true) (s x : Operand) (t : TypeId)
    (ho : o.op = .call { callee := .builtin .append, args := #[s, x], argTypes := #[t, t] })
    (base : Nat) (e : TypeId) (i : TypeInfo) (z : Value) (size bytes : Nat) (ht : P.underlying t = some (.slice e)) (hi : P.info? e = some i) (hz : i.zero = some z)
    (hsize : i.size = size) (hby : i.bytes = bytes) (hzs : z.cells.size = size) (hsz : 0 < size)
    (v : Value) (n : Nat) (xs : List Value) (hs : a.eval s = v) (hown : w.ownsRow base e size v n xs) (hv : v ≠ .slice none 0 0)
    (base2 : Nat) (u : Value) (m : Nat) (news : List Value) (hx : a.eval x = u) (hsrc : w.ownsRow base2 e size u m news) (h1 : ∀ u ∈ news, u.oneCell' = true)
    (h63 : n + m ≤ maxLen) (hbytes : (n + m) * bytes ≤ 140737488355328) (hbase : base ≤ w.heap.size)
    (h : ∀ v' w', w'.ownsRow base e size v' (n + m) (xs ++ news) → w.grownBy w' v.ownBlock → (v'.ownBlock = v.ownBlock ∨ v'.ownBlock = some w.heap.size) → wpList P ops Q rest (a.put o.dst v') w') : wpList P ops Q (o :: rest) a w := by
  refine wpList_step fun K hK => ?_
  rw [if_pos hwant]
  have key : ∃ v' w', (Builtin.append_ #[t, t] o.type #[v, u]).run P w = .ok v' w' ∧ w'.ownsRow base e size v' (n + m) (xs ++ news) ∧ w.grownBy w' v.ownBlock ∧ (v'.ownBlock = v.ownBlock ∨ v'.ownBlock = some w.heap.size) := by
    rcases hsrc.2 with ⟨rfl, rfl⟩ | ⟨g2, cap2, cur2, rfl, _⟩
    · have hn : news = [] := by
        have := hsrc.1
        rw [Nat.zero_mul] at this
        exact List.length_eq_zero_iff.1 this
      subst hn
      rw [run_append_owned_none (P := P) (w := w) base t o.type e i size ht hi v n xs hown]
      exact ⟨v, w, rfl, by simpa using hown, ⟨rfl, rfl, rfl, Nat.le_refl _, fun _ _ _ => rfl⟩, Or.inl rfl⟩
    · have hcells := hsrc.cells (g := g2) rfl
      obtain ⟨v', w', hr, h2, h3, _⟩ := run_append_own (P := P) w base t o.type e i z size bytes ht hi hz hsize hby hzs hsz v n xs hown ⟨g2, 0, none⟩ m cap2 news hsrc.1 hcells h1 h63 hbytes hbase
      refine ⟨v', w', hr, h2, h3, ?_⟩
      subst hsize
      subst hby
      rcases hown.2 with ⟨rfl, rfl⟩ | ⟨g, cap, cur, rfl, hbg, hg, hnc, hcm, hcs, htake⟩
      · exact absurd rfl hv
      · by_cases hroom : n + m ≤ cap
        · have hfit : n * i.size + news.length ≤ cur.size := by rw [hsrc.1, hcs, ← Nat.add_mul]; exact Nat.mul_le_mul_right _ hroom
          have hr2 := run_append_room (P := P) w t o.type e i ht hi g n cap cur hg ⟨g2, 0, none⟩ m cap2 news hsrc.1 hcells h1 hroom hfit
          rw [hr] at hr2
          obtain ⟨rfl, _⟩ := Result.ok.inj hr2
          exact Or.inl rfl
        · have holds : ∀ j u, xs[j]? = some u → w.cell? ((⟨g, 0, none⟩ : Addr).add j) = some u := hown.cells (g := g) rfl
          have hr2 := run_append_grow (P := P) w t o.type e i z ht hi hz ⟨g, 0, none⟩ n cap xs hown.1 holds ⟨g2, 0, none⟩ m cap2 news hsrc.1 hcells (by omega) (by simp only [maxLen] at h63; omega) (growslice_fits (by simp only [maxLen] at h63; omega) hbytes)
          rw [hr] at hr2
          obtain ⟨rfl, _⟩ := Result.ok.inj hr2
          exact Or.inr rfl
  obtain ⟨v', w', hr, h2, h3, h4⟩ := key
  unfold Oper.wp execOp
  simp only [ho, resolve, invoke, builtin, Sem.run_bind, Sem.run_pure, Result.andThen_ok, List.map_toArray, List.map_cons, List.map_nil, hs, hx, hr]
  exact hK _ _ (h v' w' h2 h3 h4)

theorem flat_one (es : List (Dat × Option Addr × Nat)) : ∀ u ∈ flat es, u.oneCell' = true := by
  intro u hu
  unfold flat at hu
  rw [List.mem_flatMap] at hu
  obtain ⟨e, _, he⟩ := hu
  simp at he
  rcases he with rfl | rfl | rfl | rfl | rfl | rfl <;> rfl

theorem flat_append (xs ys : List (Dat × Option Addr × Nat)) : flat (xs ++ ys) = flat xs ++ flat ys := by
  unfold flat
  rw [List.flatMap_append]

theorem owns_low {w : World} {b b' : Nat} {v : Value} {n : Nat} {xs : List Value} (h : w.ownsRow b 46 6 v n xs) (hb : b' ≤ b) : w.ownsRow b' 46 6 v n xs := by
  refine ⟨h.1, ?_⟩
  rcases h.2 with h2 | ⟨g, cap, cur, e, hg, r⟩
  · exact Or.inl h2
  · exact Or.inr ⟨g, cap, cur, e, by omega, r⟩

theorem below_row {B : Nat} {w w' : World} {row : Option Nat} (h : w.grownBy w' row) (hB : B ≤ w.heap.size) (hr : ∀ k, row = some k → B ≤ k) : Below B w w' :=
  ⟨h.os, h.tape, h.output, h.size, fun k hk => h.block k (by omega) (fun e => by have := hr k e.symm; omega)⟩

/-- Two rows behind each other, copied. -/
theorem two_rows {B Ba Bb C : Nat} {va vb v : Value} {xs ys : List (Dat × Option Addr × Nat)} {w2 w3 w : World} (hra : Row Ba va xs w2) (hrb : Row Bb vb ys w3) (hBa : B ≤ Ba) (hBb : B ≤ Bb) (hC2 : w2.heap.size ≤ C) (hC3 : w3.heap.size ≤ C)
    (hb2 : ∀ k, k < w2.heap.size → w.heap[k]? = w2.heap[k]?) (hb3 : ∀ k, k < w3.heap.size → w.heap[k]? = w3.heap[k]?) (hC : C ≤ w.heap.size) (hBC : B ≤ C) (hv : ∀ k, v.ownBlock = some k → C ≤ k)
    (hown : w.ownsRow C 46 6 v (xs.length + ys.length) (flat xs ++ flat ys)) : Row B v (xs ++ ys) w := by
  refine ⟨by rw [List.length_append, flat_append]; exact owns_low hown hBC, fun e he => ?_⟩
  rcases List.mem_append.1 he with he | he
  · obtain ⟨hn, f, hd⟩ := hra.kids e he
    refine ⟨hn, f, Dw.stay ?_ ?_ f _ _ hd⟩
    · intro k hk
      exact hb2 k hk.2.1
    · intro k hk
      have := hk.1
      have := hk.2.1
      exact ⟨by omega, by omega, fun e => by have := hv k e.symm; omega⟩
  · obtain ⟨hn, f, hd⟩ := hrb.kids e he
    refine ⟨hn, f, Dw.stay ?_ ?_ f _ _ hd⟩
    · intro k hk
      exact hb3 k hk.2.1
    · intro k hk
      have := hk.1
      have := hk.2.1
      exact ⟨by omega, by omega, fun e => by have := hv k e.symm; omega⟩

theorem joined_bytes (s t : ByteArray) : (s ++ { data := #[10] } ++ t).data.toList = s.data.toList ++ (10 :: t.data.toList) := by
  simp [ByteArray.data_append]

theorem joined_size (s t : ByteArray) (h : s.size + t.size + 1 ≤ 6000) : (s ++ { data := #[10] } ++ t).size ≤ maxLen := by
  unfold maxLen
  simp [ByteArray.size_append]
  show s.size + 1 + t.size ≤ _
  omega

set_option maxRecDepth 100000 in
set_option maxHeartbeats 1600000 in
theorem TextJoined_much (B : Nat) (s t : ByteArray) (w : World) (hs : s.size ≤ 140737488351232) (hn : t.size ≤ 140737488351232) (hB : B ≤ w.heap.size) (ht : Tab B w) (ds es : List Dat) (hd : readL s.data.toList = .inr ds) (he : readL t.data.toList = .inr es)
    (hbig : s.size + t.size + 1 ≤ 6000) (x : Int) (hx : readL (s.data.toList ++ (10 :: t.data.toList)) = .inl (4, x)) :
    Calls Tryd.prog 6 #[.string s, .string t] w (Yes w) := by
  have AL : Hid (∀ w', Below w.heap.size w w' → Calls Tryd.prog 17 #[] w' (Yes w')) := fun w' hb => alive_any B w' (Nat.le_trans hB hb.size) (ht.below (hb.mono hB))
  have RT : Hid (∀ w, Calls Tryd.prog 8 #[.string t] w fun e w' => Below w.heap.size w w' ∧ ∃ a cap f, e = .returned (.tuple #[.slice a es.length cap, .agg #[.int .i64 0, .int .i64 0]]) ∧ Lies w'.heap.size w' f a es) := fun w => Read_ok t w (by unfold maxLen; omega) es he
  have RS : Hid (∀ w, Calls Tryd.prog 8 #[.string s] w fun e w' => Below w.heap.size w w' ∧ ∃ a cap f, e = .returned (.tuple #[.slice a ds.length cap, .agg #[.int .i64 0, .int .i64 0]]) ∧ Lies w'.heap.size w' f a ds) := fun w => Read_ok s w (by unfold maxLen; omega) ds hd
  have RC : Hid (∀ w, Calls Tryd.prog 8 #[.string (s ++ { data := #[10] } ++ t)] w fun e w' => Below w.heap.size w w' ∧ e = .returned (.tuple #[.slice none 0 0, .agg #[.int .i64 4, .int .i64 x]])) := fun w => Read_no _ w (joined_size s t hbig) (4, x) (by rw [joined_bytes]; exact hx)
  clear ht hd he hx
  go_enter Tryd.func6, Tryd.ntmps6
  go_wp2_with fail
  refine (AL.out _ (Below.refl _ _)).mono ?_
  rintro e w1 ⟨rfl, h1⟩
  have HB1 : Hid (Below w.heap.size w w1) := h1
  have hz1 := h1.size
  clear h1 AL
  go_wp2_with fail
  refine (RS.out _).mono ?_
  rintro e w2 ⟨h2, a, cap, f, rfl, _⟩
  have HB2 : Hid (Below w.heap.size w w2) := HB1.out.trans (h2.mono hz1)
  have hz2 : w.heap.size ≤ w2.heap.size := HB2.out.size
  clear h2 RS HB1
  go_wp2_with fail
  refine (RT.out _).mono ?_
  rintro e w3 ⟨h3, a3, cap3, f3, rfl, _⟩
  have q0 : w3.cell? ⟨w2.heap.size, 0, none⟩ = some (.int .i64 0) := box_cell h3 rfl 0
  have hz3 : w2.heap.size + 1 ≤ w3.heap.size := by have := h3.size; simpa using this
  have HB3 : Hid (Below w.heap.size w w3) := (HB2.out.alloc hz2 _).trans (h3.mono (by simp; omega))
  have q0' := Lib.cell?_alloc_marked (Obj.cells #[.int .i64 0, .int .i64 0] 25) q0
  clear h3 RT HB2
  go_wp2_with fail
  refine (RC.out _).mono ?_
  rintro e w4 ⟨h4, rfl⟩
  have hz4 : w3.heap.size + 1 ≤ w4.heap.size := by have := h4.size; simpa using this
  have HB4 : Hid (Below w.heap.size w w4) := (HB3.out.alloc (by omega) _).trans (h4.mono (by simp; omega))
  clear h4 RC HB3 q0 q0'
  go_wp2_with fail
  go_ret
  exact ⟨rfl, HB4.out.alloc (by omega) _⟩

set_option maxRecDepth 100000 in
set_option maxHeartbeats 1600000 in
theorem TextJoined_good (B : Nat) (s t : ByteArray) (w : World) (hs : s.size ≤ 140737488351232) (hn : t.size ≤ 140737488351232) (hB : B ≤ w.heap.size) (ht : Tab B w) (ds es : List Dat) (hd : readL s.data.toList = .inr ds) (he : readL t.data.toList = .inr es)
    (hbig : s.size + t.size + 1 ≤ 6000) (hx : readL (s.data.toList ++ (10 :: t.data.toList)) = .inr (ds ++ es)) :
    Calls Tryd.prog 6 #[.string s, .string t] w (Yes w) := by
  have AL : Hid (∀ w', Below w.heap.size w w' → Calls Tryd.prog 17 #[] w' (Yes w')) := fun w' hb => alive_any B w' (Nat.le_trans hB hb.size) (ht.below (hb.mono hB))
  have RT : Hid (∀ w, Calls Tryd.prog 8 #[.string t] w (OutS (.inr es) w)) := fun w => by rw [← he]; exact Read_row t w (by unfold maxLen; omega)
  have RS : Hid (∀ w, Calls Tryd.prog 8 #[.string s] w (OutS (.inr ds) w)) := fun w => by rw [← hd]; exact Read_row s w (by unfold maxLen; omega)
  have RC : Hid (∀ w, Calls Tryd.prog 8 #[.string (s ++ { data := #[10] } ++ t)] w fun e w' => Below w.heap.size w w' ∧ ∃ a cap f, e = .returned (.tuple #[.slice a (ds ++ es).length cap, .agg #[.int .i64 0, .int .i64 0]]) ∧ Lies w'.heap.size w' f a (ds ++ es)) := fun w => Read_ok _ w (joined_size s t hbig) (ds ++ es) (by rw [joined_bytes]; exact hx)
  clear ht hd he hx
  go_enter Tryd.func6, Tryd.ntmps6
  go_wp2_with fail
  refine (AL.out _ (Below.refl _ _)).mono ?_
  rintro e w1 ⟨rfl, h1⟩
  have HB1 : Hid (Below w.heap.size w w1) := h1
  have hz1 := h1.size
  clear h1 AL
  go_wp2_with fail
  refine (RS.out _).mono ?_
  rintro e w2 ⟨h2, va, xs, rfl, hxs, hxl, Ba, hBa, hra⟩
  have HRA : Hid (Row Ba va xs w2) := hra
  have HB2 : Hid (Below w.heap.size w w2) := HB1.out.trans (h2.mono hz1)
  have hz2 : w.heap.size ≤ w2.heap.size := HB2.out.size
  clear h2 RS HB1 hra
  unfold fv
  simp only
  go_wp2_with fail
  refine (RT.out _).mono ?_
  rintro e w3 ⟨h3, vb, ys, rfl, hys, hyl, Bb, hBb, hrb⟩
  have HRB : Hid (Row Bb vb ys w3) := hrb
  have q0 : w3.cell? ⟨w2.heap.size, 0, none⟩ = some (.int .i64 0) := box_cell h3 rfl 0
  have hz3 : w2.heap.size + 1 ≤ w3.heap.size := by have := h3.size; simpa using this
  have HB3 : Hid (Below w2.heap.size w2 w3) := ((Below.refl _ _).alloc (Nat.le_refl _) _).trans (h3.mono (by simp))
  have q0' := Lib.cell?_alloc_marked (Obj.cells #[.int .i64 0, .int .i64 0] 25) q0
  clear h3 RT hrb
  unfold fv
  simp only
  go_wp2_with fail
  refine (RC.out _).mono ?_
  rintro e w4 ⟨h4, ac, capc, fc, rfl, hlc⟩
  have HLC : Hid (Lies w4.heap.size w4 fc ac (ds ++ es)) := hlc
  have hz4 : w3.heap.size + 1 ≤ w4.heap.size := by have := h4.size; simpa using this
  have HB4 : Hid (Below w3.heap.size w3 w4) := ((Below.refl _ _).alloc (Nat.le_refl _) _).trans (h4.mono (by simp))
  clear h4 RC q0 q0' hlc
  obtain ⟨i0, hinf, hz0, hz1', hz2'⟩ := info_parts infoDat
  have hbA : Below w2.heap.size w2 ((w4.alloc (.cells #[.int .i64 0, .int .i64 0] 25)).alloc (.cells #[] 46)) := ((HB3.out.trans (HB4.out.mono (by omega))).alloc (by omega) _).alloc (by simp; omega) _
  have hbB : Below w3.heap.size w3 ((w4.alloc (.cells #[.int .i64 0, .int .i64 0] 25)).alloc (.cells #[] 46)) := (HB4.out.alloc (by omega) _).alloc (by simp; omega) _
  have hbC : Below w4.heap.size w4 ((w4.alloc (.cells #[.int .i64 0, .int .i64 0] 25)).alloc (.cells #[] 46)) := ((Below.refl _ _).alloc (Nat.le_refl _) _).alloc (by simp) _
  have HRA5 : Hid (Row Ba va xs ((w4.alloc (.cells #[.int .i64 0, .int .i64 0] 25)).alloc (.cells #[] 46))) := HRA.out.below hbA
  have HRB5 : Hid (Row Bb vb ys ((w4.alloc (.cells #[.int .i64 0, .int .i64 0] 25)).alloc (.cells #[] 46))) := HRB.out.below hbB
  have HOW5 : Hid (((w4.alloc (.cells #[.int .i64 0, .int .i64 0] 25)).alloc (.cells #[] 46)).ownsRow w4.heap.size 46 6 (.slice (some ⟨w4.heap.size + 1, 0, none⟩) 0 0) 0 []) := by
    have := World.ownsRow_made (base := w4.heap.size) (e := 46) (size := 6) (w4.alloc (.cells #[.int .i64 0, .int .i64 0] 25)) #[] 0 (by simp) (by unfold maxLen; omega) rfl
    have e : (w4.alloc (Obj.cells #[.int .i64 0, .int .i64 0] 25)).heap.size = w4.heap.size + 1 := by simp
    rw [e] at this
    exact this
  have HA : Hid _ := hbA
  have HBB : Hid _ := hbB
  have HCC : Hid _ := hbC
  clear hbA hbB hbC
  go_wp2_with (at_builtin; refine wpList_append_any rfl (.tmp 57) (.tmp 58) 22 rfl w4.heap.size 46 i0 _ 6 72 Tryd.underlying22 hinf hz0 hz1' hz2' rfl (by decide) (.slice (some ⟨w4.heap.size + 1, 0, none⟩) 0 0) 0 [] rfl (by exact HOW5.out) (by simp) Ba va xs.length (flat xs) rfl (by exact HRA5.out.own) (flat_one xs) ?c3 ?c4 ?c5 ?_)
  case c3 => unfold maxLen; omega
  case c4 => omega
  case c5 => simp; omega
  intro v1 w6 hown6 hg6 hw6
  have hs5 : ((w4.alloc (Obj.cells #[.int .i64 0, .int .i64 0] 25)).alloc (Obj.cells #[] 46)).heap.size = w4.heap.size + 2 := by simp
  have hz6 : w4.heap.size + 2 ≤ w6.heap.size := by have := hg6.size; omega
  have hb6 : Below w4.heap.size w4 w6 := HCC.out.trans (below_row hg6 (by omega) (fun k hk => by simp [Value.ownBlock] at hk; omega))
  have hown6' : w6.ownsRow w4.heap.size 46 6 v1 xs.length (flat xs) := by simpa using hown6
  have hv1 : ∃ g cap, v1 = .slice (some ⟨g, 0, none⟩) xs.length cap ∧ w4.heap.size ≤ g := by
    rcases hown6'.2 with ⟨rfl, _⟩ | ⟨g, cap, cur, e, hg, _⟩
    · rcases hw6 with e | e <;> simp [Value.ownBlock] at e
    · exact ⟨g, cap, e, hg⟩
  obtain ⟨g1, cap1, rfl, hg1⟩ := hv1
  have HOB6 : Hid (w6.ownsRow Bb 46 6 vb ys.length (flat ys)) := by
    refine HRB5.out.own.kept hg6 ?_
    cases hv : vb.ownBlock with
    | none => exact Or.inl rfl
    | some k =>
      have := (HRB.out.own.lt k hv).2
      refine Or.inr ?_
      intro e
      simp [Value.ownBlock] at e
      omega
  have HOW6 : Hid (w6.ownsRow w4.heap.size 46 6 (.slice (some ⟨g1, 0, none⟩) xs.length cap1) xs.length (flat xs)) := hown6'
  have HB6 : Hid (Below w4.heap.size w4 w6) := hb6
  clear hown6 hown6' hg6 hw6 hb6 HRA5 HRB5 HOW5 HA HBB HCC
  go_wp2_with (at_builtin; refine wpList_append_any rfl (.tmp 59) (.tmp 60) 22 rfl w4.heap.size 46 i0 _ 6 72 Tryd.underlying22 hinf hz0 hz1' hz2' rfl (by decide) (.slice (some ⟨g1, 0, none⟩) xs.length cap1) xs.length (flat xs) rfl (by exact HOW6.out) (by simp) Bb vb ys.length (flat ys) rfl (by exact HOB6.out) (flat_one ys) ?d3 ?d4 ?d5 ?_)
  case d3 => unfold maxLen; omega
  case d4 => omega
  case d5 => omega
  intro v2 w7 hown7 hg7 hw7
  have hb7 : Below w4.heap.size w4 w7 := HB6.out.trans (below_row hg7 (by omega) (fun k hk => by simp [Value.ownBlock] at hk; omega))
  have hz7 := hb7.size
  have hv2 : ∀ k, v2.ownBlock = some k → w4.heap.size ≤ k := fun k hk => (hown7.lt k hk).1
  have hrow : Row w.heap.size v2 (xs ++ ys) w7 := two_rows (C := w4.heap.size) HRA.out HRB.out (by omega) (by simp at hBb; omega) (by omega) (by omega)
    (fun k hk => (hb7.block k (by omega)).trans ((HB4.out.block k (by omega)).trans (HB3.out.block k hk))) (fun k hk => (hb7.block k (by omega)).trans (HB4.out.block k hk)) hz7 (by omega) hv2 hown7
  obtain ⟨a2, cap2, f2, rfl, hd2⟩ := hrow.lie (by simp; omega)
  have hmap : (xs ++ ys).map (·.1) = ds ++ es := by rw [List.map_append, hxs, hys]
  rw [hmap] at hd2
  have SM : Hid (Calls Tryd.prog 10 #[.slice ac (ds ++ es).length capc, .slice a2 ((xs ++ ys).map (·.1)).length cap2] w7 (Yes w7)) := by
    rw [hmap]
    exact Same_any w7.heap.size fc f2 (ds ++ es) (ds ++ es) ac a2 capc cap2 w7 (Nat.le_refl _) (Lies.mono hz7 _ _ _ (HLC.out.below hb7)) (Dw.lies (fun k hk => hk.2) f2 a2 _ hd2) (Alike.refl fc ac _ HLC.out)
  have HB7 : Hid (Below w.heap.size w w7) := (HB2.out.trans ((HB3.out.trans ((HB4.out.trans (hb7.mono (by omega))).mono (by omega))).mono (by omega)))
  clear hb7 hg7 hw7 hrow hd2 hown7 hv2 HB6 HOW6 HOB6
  rw [hmap, List.length_append] at SM
  go_wp2_with fail
  refine SM.out.mono ?_
  rintro e w8 ⟨rfl, h8⟩
  have HB8 : Hid (Below w.heap.size w w8) := HB7.out.trans (h8.mono (by omega))
  clear h8 SM HB7
  go_wp2_with fail
  go_ret
  exact ⟨rfl, HB8.out⟩

theorem TextJoined_walk (B : Nat) (s t : ByteArray) (w : World) (hs : s.size ≤ 140737488351232) (hn : t.size ≤ 140737488351232) (hB : B ≤ w.heap.size) (ht : Tab B w) :
    Calls Tryd.prog 6 #[.string s, .string t] w (Yes w) := by
  cases hd : readL s.data.toList with
  | inl x => exact TextJoined_bad1 B s t w hs hn hB ht x hd
  | inr ds =>
    cases he : readL t.data.toList with
    | inl x => exact TextJoined_bad2 B s t w hs hn hB ht ds hd x he
    | inr es =>
      by_cases hbig : s.size + t.size + 1 ≤ 6000
      · have y0 : s.data.toList.length = s.size := Array.length_toList
        have y1 : t.data.toList.length = t.size := Array.length_toList
        rcases read_joined s.data.toList t.data.toList ds es hd he (by omega) with hx | ⟨x, hx⟩
        · exact TextJoined_good B s t w hs hn hB ht ds es hd he hbig hx
        · exact TextJoined_much B s t w hs hn hB ht ds es hd he hbig x hx
      · exact TextJoined_big B s t w hs hn hB ht ds es hd he (by omega)

end Go.Proofs.YtagpcafbeplccaaDoor
