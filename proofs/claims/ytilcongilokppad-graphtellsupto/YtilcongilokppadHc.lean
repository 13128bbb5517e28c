/- container/heap, over what is ready. -/
import Derived.Test.YtilcongilokppadHb
namespace Go.Proofs.Ytilcongilokppad
set_option linter.unusedVariables false
set_option linter.unusedSimpArgs false
open Go.RowKit

theorem method_of {name : String} {f : FuncId} (hm : ((Try.prog.info? 53).bind fun i => i.methods.find? fun m => m.name == name).map (fun m => (m.func, m.path)) = some (some (f, false), #[{ struct := 56, index := 0, deref := true }])) (r : Nat) (v : Value) (w : World) (hc : w.cell? ⟨r, 0, none⟩ = some v) : (method 219 53 (.pointer (some ⟨r, 0, none⟩)) name).run Try.prog w = .ok (f, v) w := by
  cases hi : Try.prog.info? 53 with
  | none => rw [hi] at hm; simp at hm
  | some i =>
    rw [hi] at hm
    simp only [Option.bind_some] at hm
    cases hf : i.methods.find? fun m => m.name == name with
    | none => rw [hf] at hm; simp at hm
    | some m =>
      rw [hf] at hm
      simp only [Option.map_some, Option.some.injEq, Prod.mk.injEq] at hm
      obtain ⟨h1, h2⟩ := hm
      have h3 : (follow m.path.toList 53 (.val (.pointer (some ⟨r, 0, none⟩)))).run Try.prog w = .ok (54, .var ⟨r, 0, none⟩) w := by
        rw [h2]
        kernel_rfl
      have h4 : (typeInfo 53).run Try.prog w = .ok i w := by simp [typeInfo, hi]
      have hl : (loadVar 54 ⟨r, 0, none⟩).run Try.prog w = .ok v w := by
        simp [loadVar, hc]
      unfold method
      simp only [Sem.run_bind]
      simp [h4, hf, h1, h3, receiverAt, run_underlying Try.underlying54, Place.get, hl]
theorem method_less (r : Nat) (v : Value) (w : World) (hc : w.cell? ⟨r, 0, none⟩ = some v) : (method 219 53 (.pointer (some ⟨r, 0, none⟩)) "Less").run Try.prog w = .ok (75, v) w := method_of (by kernel_rfl) r v w hc
theorem method_swap (r : Nat) (v : Value) (w : World) (hc : w.cell? ⟨r, 0, none⟩ = some v) : (method 219 53 (.pointer (some ⟨r, 0, none⟩)) "Swap").run Try.prog w = .ok (79, v) w := method_of (by kernel_rfl) r v w hc
theorem method_len (r : Nat) (v : Value) (w : World) (hc : w.cell? ⟨r, 0, none⟩ = some v) : (method 219 53 (.pointer (some ⟨r, 0, none⟩)) "Len").run Try.prog w = .ok (25, v) w := method_of (by kernel_rfl) r v w hc
theorem method_push (r : Nat) (w : World) : (method 219 53 (.pointer (some ⟨r, 0, none⟩)) "Push").run Try.prog w = .ok (77, .pointer (some ⟨r, 0, none⟩)) w := by kernel_rfl
theorem method_pop (r : Nat) (w : World) : (method 219 53 (.pointer (some ⟨r, 0, none⟩)) "Pop").run Try.prog w = .ok (76, .pointer (some ⟨r, 0, none⟩)) w := by kernel_rfl

theorem Hp.swapped {r g n c : Nat} {h : List Nat} {w w1 : World} (H : Hp r h (.slice (some ⟨g, 0, none⟩) n c) w) (e : w1.heap = w.heap) {i j : Nat} (hi : i < h.length) (hj : j < h.length) :
    Hp r (sw h i j) (.slice (some ⟨g, 0, none⟩) n c) ((w1.setCell ⟨g, i, none⟩ (encI (h.getD j 0))).setCell ⟨g, j, none⟩ (encI (h.getD i 0))) := by
  have hg := (H.row.lt (k := g) rfl).1
  have h1 : RowI (r + 1) (.slice (some ⟨g, 0, none⟩) n c) h w1 := H.row.kept fun k _ => by rw [e]
  refine ⟨?_, (h1.set hi _).set (by simpa using hj) _⟩
  rw [Below.heap_setCell _ _ _ _ (show r ≠ g by omega), Below.heap_setCell _ _ _ _ (show r ≠ g by omega), e]
  exact H.box
theorem Tch.swapped {r g n c : Nat} {w w1 : World} (hb : Below w.heap.size w w1) (i j : Nat) (x y : Value) : Tch r (.slice (some ⟨g, 0, none⟩) n c) w ((w1.setCell ⟨g, i, none⟩ x).setCell ⟨g, j, none⟩ y) := by
  refine ⟨hb.os, hb.tape, hb.output, by simpa using hb.size, fun k hk hr hv => ?_⟩
  have hne : k ≠ g := fun e => hv (by simp [Value.ownBlock, e])
  exact (Below.heap_setCell _ _ _ _ hne).trans ((Below.heap_setCell _ _ _ _ hne).trans (hb.block k hk))

set_option maxRecDepth 100000 in
set_option maxHeartbeats 1600000 in
theorem up_any (r j : Nat) (h : List Nat) (v : Value) (w : World) (H : Hp r h v w) (hu : Up h j) (hl : h.length ≤ 1048576) :
    Calls Try.prog 34 #[.iface 53 (.pointer (some ⟨r, 0, none⟩)), .int .i64 j] w fun e w' => e = .returned (.tuple #[]) ∧ ∃ h', h'.Perm h ∧ Heap h' h'.length ∧ Hp r h' v w' ∧ Tch r v w w' := by
  have hjl := hu.lt
  obtain ⟨g, cap, rfl, hg1, hg2, hcap⟩ := H.row.is (by omega)
  have HH : Hid (Hp r h (.slice (some ⟨g, 0, none⟩) h.length cap) w ∧ Up h j) := ⟨H, hu⟩
  clear H hu hg2
  go_enter Try.func34, Try.ntmps34
  go_wp2_with fail
  go_loopw [1] (fun i wr => ∃ (k : Nat) (h' : List Nat), i = .int .i64 k ∧ Hid (h'.Perm h ∧ Up h' k ∧ Hp r h' (.slice (some ⟨g, 0, none⟩) h.length cap) wr ∧ Tch r (.slice (some ⟨g, 0, none⟩) h.length cap) w wr)) (fun i _ => (intOf i).toNat)
  case atStart => exact ⟨j, h, rfl, List.Perm.refl _, HH.out.2, HH.out.1, Tch.refl _ _ _⟩
  case round =>
    obtain ⟨k, h', rfl, HR⟩ := hrel
    have hk := HR.out.2.1.lt
    have hlen := HR.out.1.length_eq
    by_cases h0 : k = 0
    · subst h0
      go_wp2_with fail
      go_end0
      exact ⟨rfl, h', HR.out.1, HR.out.2.1.done (Or.inl rfl), HR.out.2.2.1, HR.out.2.2.2⟩
    · obtain ⟨m, rfl⟩ : ∃ m, k = m + 1 := ⟨k - 1, by omega⟩
      obtain ⟨q, HQ⟩ : ∃ q, Hid (q = m / 2) := ⟨_, rfl⟩
      have HD : Hid ((m : Int) / 2 = (q : Int)) := by
        show (m : Int) / 2 = (q : Int)
        have := HQ.out
        omega
      have hql : q < h'.length := by
        have := HQ.out
        omega
      have hqm : q < m + 1 := by
        have := HQ.out
        omega
      obtain ⟨x, HX⟩ : ∃ x, Hid (h'.getD (m + 1) 0 = x) := ⟨_, rfl⟩
      obtain ⟨y, HY⟩ : ∃ y, Hid (h'.getD q 0 = y) := ⟨_, rfl⟩
      have hml := method_less r _ wr HR.out.2.2.1.cell
      have LE : Hid (Calls Try.prog 75 #[.slice (some ⟨g, 0, none⟩) h.length cap, .int .i64 ((m + 1 : Nat) : Int), .int .i64 (q : Int)] wr fun e w' => e = .returned (.bool (decide (x < y))) ∧ Below wr.heap.size wr w') :=
        Less_any g h.length cap (m + 1) q x y wr (by omega) (by omega) hl (HX.out ▸ HR.out.2.2.1.row.cell hk) (HY.out ▸ HR.out.2.2.1.row.cell hql)
      go_wp2_with fail
      rw [HD.out]
      refine LE.out.mono ?_
      rintro e w1 ⟨rfl, hb1⟩
      have H1 : Hid (Hp r h' (.slice (some ⟨g, 0, none⟩) h.length cap) w1 ∧ Tch r (.slice (some ⟨g, 0, none⟩) h.length cap) w w1) := ⟨HR.out.2.2.1.below hb1, HR.out.2.2.2.trans (Lies.refl _ _) (Tch.of_below hb1)⟩
      have hms := method_swap r _ w1 H1.out.1.cell
      have SW : Hid (Calls Try.prog 79 #[.slice (some ⟨g, 0, none⟩) h.length cap, .int .i64 (q : Int), .int .i64 ((m + 1 : Nat) : Int)] w1 fun e w' => e = .returned (.tuple #[]) ∧ ∃ w2, Below w1.heap.size w1 w2 ∧ w2.heap = w1.heap ∧ w' = (w2.setCell ⟨g, q, none⟩ (encI x)).setCell ⟨g, m + 1, none⟩ (encI y)) :=
        Swap_any g h.length cap q (m + 1) y x w1 (by omega) (by omega) hl (HY.out ▸ H1.out.1.row.cell hql) (HX.out ▸ H1.out.1.row.cell hk) (H1.out.1.row.frozen _) (H1.out.1.row.frozen _)
      have hqi : ¬ (q : Int) = (m : Int) + 1 := by omega
      clear hb1 hml LE
      by_cases hlt : x < y
      · have HL : Hid (h'.getD (m + 1) 0 < h'.getD ((m + 1 - 1) / 2) 0) := by
          show h'.getD (m + 1) 0 < h'.getD ((m + 1 - 1) / 2) 0
          rw [Nat.add_sub_cancel, ← HQ.out, HX.out, HY.out]
          exact hlt
        go_wp2_with fail
        refine SW.out.mono ?_
        rintro e w3 ⟨rfl, w2, hb2, he2, hw3⟩
        have H2 : Hid (Hp r (sw h' q (m + 1)) (.slice (some ⟨g, 0, none⟩) h.length cap) w3 ∧ Tch r (.slice (some ⟨g, 0, none⟩) h.length cap) w w3 ∧ Up (sw h' q (m + 1)) q) := by
          rw [← HX.out, ← HY.out] at hw3
          rw [hw3]
          refine ⟨H1.out.1.swapped he2 hql hk, H1.out.2.trans (Lies.refl _ _) (Tch.swapped hb2 _ _ _ _), ?_⟩
          have := HR.out.2.1.step (Nat.succ_pos _) HL.out
          rwa [Nat.add_sub_cancel, ← HQ.out] at this
        have hperm : Hid ((sw h' q (m + 1)).Perm h) := (sw_perm hql hk).trans HR.out.1
        clear hb2 he2 hms hw3
        go_wp2_with fail
        go_roundw
        case rel => exact ⟨q, _, rfl, hperm.out, H2.out.2.2, H2.out.1, H2.out.2.1⟩
        case measure => simp [intOf]; omega
      · have HL : Hid (h'.getD ((m + 1 - 1) / 2) 0 ≤ h'.getD (m + 1) 0) := by
          show h'.getD ((m + 1 - 1) / 2) 0 ≤ h'.getD (m + 1) 0
          rw [Nat.add_sub_cancel, ← HQ.out, HX.out, HY.out]
          omega
        go_wp2_with fail
        go_end0
        exact ⟨rfl, h', HR.out.1, HR.out.2.1.done (Or.inr HL.out), H1.out.1, H1.out.2⟩

set_option maxRecDepth 100000 in
set_option maxHeartbeats 1600000 in
theorem heapPush_any (r y : Nat) (h : List Nat) (v : Value) (w : World) (H : Hp r h v w) (hh : Heap h h.length) (hl : h.length < 1048576) :
    Calls Try.prog 24 #[.iface 53 (.pointer (some ⟨r, 0, none⟩)), .iface 3 (.int .i64 y)] w fun e w' => e = .returned (.tuple #[]) ∧ ∃ h' v', h'.Perm (h ++ [y]) ∧ Heap h' h'.length ∧ Hp r h' v' w' ∧ Tch r v w w' ∧ Lies w v v' := by
  have HH : Hid (Heap h h.length) := hh
  have PU : Hid (Calls Try.prog 77 #[.pointer (some ⟨r, 0, none⟩), .iface 3 (.int .i64 y)] w fun e w' => e = .returned (.tuple #[]) ∧ ∃ v', Hp r (h ++ [y]) v' w' ∧ Tch r v w w' ∧ Lies w v v') := Push_any r y h v w H (by omega)
  have hmp := method_push r w
  clear H hh
  go_enter Try.func24, Try.ntmps24
  go_wp2_with fail
  refine PU.out.mono ?_
  rintro e w1 ⟨rfl, v1, h1, ht1, hl1⟩
  have H1 : Hid (Hp r (h ++ [y]) v1 w1 ∧ Tch r v w w1 ∧ Lies w v v1) := ⟨h1, ht1, hl1⟩
  obtain ⟨g, cap, hv1, hg1, hg2, hcap⟩ := h1.row.is (by simp)
  rw [show (h ++ [y]).length = h.length + 1 by simp] at hv1
  subst hv1
  have hml := method_len r _ w1 h1.cell
  have UP : Hid (Calls Try.prog 34 #[.iface 53 (.pointer (some ⟨r, 0, none⟩)), .int .i64 (h.length : Int)] w1 fun e w' => e = .returned (.tuple #[]) ∧ ∃ h', h'.Perm (h ++ [y]) ∧ Heap h' h'.length ∧ Hp r h' (.slice (some ⟨g, 0, none⟩) (h.length + 1) cap) w' ∧ Tch r (.slice (some ⟨g, 0, none⟩) (h.length + 1) cap) w1 w') :=
    up_any r h.length (h ++ [y]) _ w1 h1 (HH.out.push y) (by simp; omega)
  clear h1 ht1 hl1 hmp PU
  go_wp2_with fail
  refine (Len_any _ _ _ _).mono ?_
  rintro e w2 ⟨rfl, rfl⟩
  go_wp2_with fail
  refine UP.out.mono ?_
  rintro e w3 ⟨rfl, h', hp', hh', hH', ht'⟩
  go_wp2_with fail
  go_end0
  exact ⟨rfl, h', _, hp', hh', hH', H1.out.2.1.trans H1.out.2.2 ht', H1.out.2.2⟩
end Go.Proofs.Ytilcongilokppad
