/- Chapter 7: primitives of one value. Chapter 7: primitives of two values; primitives. Chapter 7: primitives are called. Chapter 7: calls: of primitives, and of what can't be called. -/
import Derived.Test.YthooljlikllnpaaDoorK41
import Derived.Test.YthooljlikllnpaaDoorK42
namespace Go.Proofs.YthooljlikllnpaaDoor
section
set_option linter.unusedVariables false
set_option linter.unusedSimpArgs false
open Go.RowKit

theorem vT_pair {v : Val} (h : ¬ ∃ i, v = .pair i) : vT v ≠ 158 := by
  cases v <;> simp [vT] <;> exact h ⟨_, rfl⟩
theorem vT_num {v : Val} (h : ¬ ∃ n, v = .num n) : vT v ≠ 104 := by
  cases v <;> simp [vT] <;> exact h ⟨_, rfl⟩
theorem one_car (v : Val) (σ : St) (h : ¬ ∃ i, v = .pair i) : oneF carB v σ = (.bad 4, σ) := by
  unfold oneF
  rw [if_pos rfl]
  cases v <;> first | rfl | exact absurd ⟨_, rfl⟩ h
theorem one_cdr (v : Val) (σ : St) (h : ¬ ∃ i, v = .pair i) : oneF cdrB v σ = (.bad 4, σ) := by
  unfold oneF
  rw [if_neg (by decide), if_pos rfl]
  cases v <;> first | rfl | exact absurd ⟨_, rfl⟩ h
theorem one_pair (v : Val) (σ : St) (h : ¬ ∃ i, v = .pair i) : oneF pairQ v σ = (.ok (.tru false), σ) := by
  unfold oneF
  rw [if_neg (by decide), if_neg (by decide), if_neg (by decide), if_pos rfl]
  cases v <;> first | rfl | exact absurd ⟨_, rfl⟩ h
set_option maxRecDepth 100000 in
set_option maxHeartbeats 1600000 in
theorem ofOne_any (B rb gb : Nat) (m : Mm) (σ : St) (p : ByteArray) (v : Val) (w : World) (h : Rel B rb gb m σ w) (hs : B ≤ w.heap.size) (hv : VOk m v) :
    Calls Tryd.prog 73 #[.string p, .iface (vT v) (vX m v)] w (ToldR B rb gb m w (oneF p v σ)) := by
  by_cases p1 : p = carB
  · subst p1
    by_cases hp : ∃ i, v = .pair i
    · obtain ⟨i, rfl⟩ := hp
      have hi : i < m.pr.length := hv
      have e : m.pr[i]? = some (m.pr.getD i 0) := by simp [List.getD, List.getElem?_eq_getElem hi]
      have HV := hidd (values_any B rb gb m σ i _ w h hs e)
      rw [show oneF carB (.pair i) σ = (.ok (valuesF i σ).1.1, (valuesF i σ).2) from rfl]
      unfold carB
      show Calls Tryd.prog 73 #[.string _, .iface 158 (.pointer (some ⟨m.pr.getD i 0, 0, none⟩))] w _
      generalize m.pr.getD i 0 = k at *
      clear e h hv hi
      go_enter Tryd.func73, Tryd.ntmps73
      go_wp2_with fail
      refine (pairOf_yes _ _).mono ?_
      rintro e w1 ⟨rfl, rfl⟩
      go_wp2_with fail
      refine HV.out.mono ?_
      rintro e w2 ⟨m2, rfl, r2, n2, o2, o3, k2⟩
      unfold vV
      go_wp2_with fail
      go_ret
      exact ⟨m2, r2, n2, k2, rfl, o2⟩
    · have ht : vT v ≠ 158 := vT_pair hp
      have HE : Hid (ToldR B rb gb m w (.bad 4, σ) (.panicked (endP 4)) w) := ⟨m, h, New.refl m w, KR.refl _ _ _ _ _, rfl⟩
      rw [one_car v σ hp]
      unfold carB
      have HN := hidd (pairOf_no (vT v) ht (vX m v))
      generalize vT v = t at *
      generalize vX m v = x at *
      clear h ht hv hp
      go_enter Tryd.func73, Tryd.ntmps73
      go_wp2_with fail
      refine (HN.out _).mono ?_
      rintro e w1 ⟨rfl, rfl⟩
      go_wp2_with fail
      exact ⟨rfl, HE.out⟩
  have q1 : (p.toList == [99, 97, 114]) = false := neP p1
  by_cases p2 : p = cdrB
  · subst p2
    by_cases hp : ∃ i, v = .pair i
    · obtain ⟨i, rfl⟩ := hp
      have hi : i < m.pr.length := hv
      have e : m.pr[i]? = some (m.pr.getD i 0) := by simp [List.getD, List.getElem?_eq_getElem hi]
      have HV := hidd (values_any B rb gb m σ i _ w h hs e)
      rw [show oneF cdrB (.pair i) σ = (.ok (valuesF i σ).1.2, (valuesF i σ).2) from by unfold oneF; rw [if_neg (by decide), if_pos rfl]]
      unfold cdrB
      show Calls Tryd.prog 73 #[.string _, .iface 158 (.pointer (some ⟨m.pr.getD i 0, 0, none⟩))] w _
      generalize m.pr.getD i 0 = k at *
      clear e h hv hi
      go_enter Tryd.func73, Tryd.ntmps73
      go_wp2_with fail
      refine (pairOf_yes _ _).mono ?_
      rintro e w1 ⟨rfl, rfl⟩
      go_wp2_with fail
      refine HV.out.mono ?_
      rintro e w2 ⟨m2, rfl, r2, n2, o2, o3, k2⟩
      unfold vV
      go_wp2_with fail
      go_ret
      exact ⟨m2, r2, n2, k2, rfl, o3⟩
    · have ht : vT v ≠ 158 := vT_pair hp
      have HE : Hid (ToldR B rb gb m w (.bad 4, σ) (.panicked (endP 4)) w) := ⟨m, h, New.refl m w, KR.refl _ _ _ _ _, rfl⟩
      rw [one_cdr v σ hp]
      unfold cdrB
      have HN := hidd (pairOf_no (vT v) ht (vX m v))
      generalize vT v = t at *
      generalize vX m v = x at *
      clear h ht hv hp
      go_enter Tryd.func73, Tryd.ntmps73
      go_wp2_with fail
      refine (HN.out _).mono ?_
      rintro e w1 ⟨rfl, rfl⟩
      go_wp2_with fail
      exact ⟨rfl, HE.out⟩
  have q2 : (p.toList == [99, 100, 114]) = false := neP p2
  by_cases p3 : p = nullB
  · subst p3
    rw [show oneF nullB v σ = (.ok (.tru (decide (v = .nil))), σ) from by unfold oneF; rw [if_neg p1, if_neg p2, if_pos rfl]]
    unfold nullB
    have HQ : ∀ W : World, W = w → (binOp .eql 77 (.iface (vT v) (vX m v)) (.iface 157 (.agg #[]))).run Tryd.prog W = .ok (.bool (decide (v = .nil))) W := fun W e => by subst e; exact eql_any h v .nil hv trivial
    have HE : Hid (∀ q, ToldR B rb gb m w (.ok (.tru q), σ) (.returned (.iface 105 (.bool q))) w) := fun q => ⟨m, h, New.refl m w, KR.refl _ _ _ _ _, rfl, trivial⟩
    have hq := HQ w rfl
    generalize decide (v = .nil) = q at *
    generalize vT v = t at *
    generalize vX m v = x at *
    clear h hv HQ
    go_enter Tryd.func73, Tryd.ntmps73
    go_wp2_with fail
    go_ret
    exact HE.out q
  have q3 : (p.toList == [110, 117, 108, 108, 63]) = false := neP p3
  by_cases p4 : p = pairQ
  · subst p4
    by_cases hp : ∃ i, v = .pair i
    · obtain ⟨i, rfl⟩ := hp
      rw [show oneF pairQ (.pair i) σ = (.ok (.tru true), σ) from by unfold oneF; rw [if_neg (by decide), if_neg (by decide), if_neg (by decide), if_pos rfl]]
      unfold pairQ
      have HE : Hid (ToldR B rb gb m w (.ok (.tru true), σ) (.returned (.iface 105 (.bool true))) w) := ⟨m, h, New.refl m w, KR.refl _ _ _ _ _, rfl, trivial⟩
      show Calls Tryd.prog 73 #[.string _, .iface 158 (vX m (.pair i))] w _
      generalize vX m (.pair i) = x at *
      have hta := yes158 x
      clear h hv
      go_enter Tryd.func73, Tryd.ntmps73
      go_wp2_with fail
      go_ret
      exact HE.out
    · have ht : vT v ≠ 158 := vT_pair hp
      rw [one_pair v σ hp]
      unfold pairQ
      have HE : Hid (ToldR B rb gb m w (.ok (.tru false), σ) (.returned (.iface 105 (.bool false))) w) := ⟨m, h, New.refl m w, KR.refl _ _ _ _ _, rfl, trivial⟩
      have hta := no158 (vT v) ht (vX m v)
      generalize vT v = t at *
      generalize vX m v = x at *
      clear h ht hv hp
      go_enter Tryd.func73, Tryd.ntmps73
      go_wp2_with fail
      go_ret
      exact HE.out
  have q4 : (p.toList == [112, 97, 105, 114, 63]) = false := neP p4
  rw [show oneF p v σ = (.ok (.tru (decide (v = .tru false))), σ) from by unfold oneF; rw [if_neg p1, if_neg p2, if_neg p3, if_neg p4]]
  have HE : Hid (∀ q, ToldR B rb gb m w (.ok (.tru q), σ) (.returned (.iface 105 (.bool q))) w) := fun q => ⟨m, h, New.refl m w, KR.refl _ _ _ _ _, rfl, trivial⟩
  have hq : (binOp .eql 77 (.iface (vT v) (vX m v)) (.iface 105 (.bool false))).run Tryd.prog w = .ok (.bool (decide (v = .tru false))) w := eql_any h v (.tru false) hv trivial
  generalize decide (v = .tru false) = q at *
  generalize vT v = t at *
  generalize vX m v = x at *
  clear h hv p1 p2 p3 p4
  go_enter Tryd.func73, Tryd.ntmps73
  go_wp2_with fail
  go_ret
  exact HE.out q
end
section
set_option linter.unusedVariables false
set_option linter.unusedSimpArgs false
open Go.RowKit

/-- What is told of what is reckoned. -/
def ToldN (r : Res Val) (w : World) (e : Ending) (w' : World) : Prop := w' = w ∧ match r with | .ok v => ∀ m, e = .returned (.iface (vT v) (vX m v)) ∧ VOk m v | .bad h => e = .panicked (endP h)
theorem sum_told {n : Int} {w w' : World} {e : Ending} (h : ValOr (rangeN n) (.iface 104 (.int .i64 n)) 6 w e w') : ToldN (sumF n) w e w' := by
  obtain ⟨h1, h2⟩ := h
  refine ⟨h1, ?_⟩
  unfold sumF
  by_cases hr : inR n = true
  · rw [if_pos hr]
    rw [show rangeN n = true from hr, if_pos rfl] at h2
    exact fun m => ⟨h2, hr⟩
  · rw [if_neg hr]
    rw [if_neg (show ¬ rangeN n = true from hr)] at h2
    exact h2
set_option maxRecDepth 100000 in
set_option maxHeartbeats 3200000 in
theorem ofNumbers_all (p : ByteArray) (a b : Int) (w : World) (h1 : inR a = true) (h2 : inR b = true) : Calls Tryd.prog 85 #[.string p, .int .i64 a, .int .i64 b] w (ToldN (numsF p a b) w) := by
  have g1 : rangeN a = true := h1
  have g2 : rangeN b = true := h2
  unfold numsF
  by_cases p1 : p = ltB
  · rw [if_pos p1]
    subst p1
    refine (ofNumbers_any 3 a b w g1 g2).mono ?_
    rintro e w' ⟨rfl, rfl⟩
    exact ⟨rfl, fun m => ⟨rfl, trivial⟩⟩
  rw [if_neg p1]
  by_cases p2 : p = eqB
  · rw [if_pos p2]
    subst p2
    unfold eqB
    clear h1 h2 g1 g2 p1
    go_enter Tryd.func85, Tryd.ntmps85
    go_wp2_with fail
    go_ret
    exact ⟨rfl, fun m => ⟨by rw [beq_dec]; rfl, trivial⟩⟩
  rw [if_neg p2]
  by_cases p3 : p = addB
  · rw [if_pos p3]
    subst p3
    exact (ofNumbers_any 0 a b w g1 g2).mono (fun e w' h => sum_told h)
  rw [if_neg p3]
  by_cases p4 : p = subB
  · rw [if_pos p4]
    subst p4
    exact (ofNumbers_any 1 a b w g1 g2).mono (fun e w' h => sum_told h)
  rw [if_neg p4]
  have q1 : (p.toList == [60]) = false := neP p1
  have q2 : (p.toList == [61]) = false := neP p2
  have q3 : (p.toList == [43]) = false := neP p3
  have q4 : (p.toList == [45]) = false := neP p4
  have PR : Hid (Calls Tryd.prog 92 #[.int .i64 a, .int .i64 b] w fun e w' => (∃ t x, e = .returned (.iface t x) ∨ ∃ q, e = .panicked q) ∧ ToldN (sumF (a * b)) w e w') := (product_any a b w g1 g2).mono (fun e w' h => ⟨by
    obtain ⟨_, h⟩ := h
    cases hq : rangeN (a * b)
    · rw [hq] at h; exact ⟨0, .nilIface, Or.inr ⟨_, h⟩⟩
    · rw [hq] at h; exact ⟨_, _, Or.inl h⟩, sum_told h⟩)
  generalize sumF (a * b) = R at *
  clear p1 p2 p3 p4 h1 h2 g1 g2
  go_enter Tryd.func85, Tryd.ntmps85
  go_wp2_with fail
  refine PR.out.mono ?_
  rintro e w1 ⟨⟨t, x, hx⟩, hT⟩
  have HT := hidd hT
  clear hT
  rcases hx with rfl | ⟨q, rfl⟩
  · go_wp2_with fail
    go_ret
    exact HT.out
  · go_wp2_with fail
    exact ⟨rfl, HT.out⟩
theorem two_noA (p : ByteArray) (a b : Val) (σ : St) (p1 : ¬ p = consF) (p2 : ¬ p = eqQ) (h : ¬ ∃ n, a = .num n) : twoF p a b σ = (.bad 4, σ) := by
  unfold twoF
  rw [if_neg p1, if_neg p2]
  cases a <;> first | rfl | exact absurd ⟨_, rfl⟩ h
theorem two_noB (p : ByteArray) (x : Int) (b : Val) (σ : St) (p1 : ¬ p = consF) (p2 : ¬ p = eqQ) (h : ¬ ∃ n, b = .num n) : twoF p (.num x) b σ = (.bad 4, σ) := by
  unfold twoF
  rw [if_neg p1, if_neg p2]
  cases b <;> first | rfl | exact absurd ⟨_, rfl⟩ h
set_option maxRecDepth 100000 in
set_option maxHeartbeats 3200000 in
theorem ofTwo_any (B rb gb : Nat) (m : Mm) (σ : St) (p : ByteArray) (a b : Val) (w : World) (h : Rel B rb gb m σ w) (hs : B ≤ w.heap.size) (ha : VOk m a) (hb : VOk m b) :
    Calls Tryd.prog 74 #[.string p, .iface (vT a) (vX m a), .iface (vT b) (vX m b)] w (ToldR B rb gb m w (twoF p a b σ)) := by
  by_cases p1 : p = consF
  · subst p1
    rw [show twoF consF a b σ = (.ok (.pair σ.pairs.length), { σ with pairs := σ.pairs ++ [.made a b] }) from rfl]
    unfold consF
    have x : MmX m { m with pr := m.pr ++ [w.heap.size] } := ⟨⟨_, rfl⟩, ⟨[], by simp⟩, ⟨[], by simp⟩⟩
    have HR := hidd (h.pair hs #[.iface (vT a) (vX m a), .iface (vT b) (vX m b), .slice none 0 0] (.made a b) ⟨ha.up x, hb.up x, by rw [vV_up ha x, vV_up hb x]; exact World.alloc_heap_new w _⟩)
    have HLP := hidd h.lp
    generalize vT a = ta at *
    generalize vT b = tb at *
    generalize vX m a = xa at *
    generalize vX m b = xb at *
    clear h ha hb x
    go_enter Tryd.func74, Tryd.ntmps74
    go_wp2_with fail
    go_ret
    refine ⟨_, HR.out.1, HR.out.2, KR.ofBelow ((Below.refl _ _).alloc (Nat.le_refl _) _), ?_, ?_⟩
    · show Ending.returned _ = Ending.returned (.iface 158 (.pointer (some ⟨(m.pr ++ [w.heap.size]).getD σ.pairs.length 0, 0, none⟩)))
      rw [← HLP.out]
      simp
    · show σ.pairs.length < (m.pr ++ [w.heap.size]).length
      rw [← HLP.out]
      simp
  have q1 : (p.toList == [99, 111, 110, 115]) = false := neP p1
  by_cases p2 : p = eqQ
  · subst p2
    rw [show twoF eqQ a b σ = (.ok (.tru (decide (a = b))), σ) from by unfold twoF; rw [if_neg p1, if_pos rfl]]
    unfold eqQ
    have hq := eql_any h a b ha hb
    have HE : Hid (∀ q, ToldR B rb gb m w (.ok (.tru q), σ) (.returned (.iface 105 (.bool q))) w) := fun q => ⟨m, h, New.refl m w, KR.refl _ _ _ _ _, rfl, trivial⟩
    generalize decide (a = b) = q at *
    generalize vT a = ta at *
    generalize vT b = tb at *
    generalize vX m a = xa at *
    generalize vX m b = xb at *
    clear h ha hb p1 q1
    go_enter Tryd.func74, Tryd.ntmps74
    go_wp2_with fail
    go_ret
    exact HE.out q
  have q2 : (p.toList == [101, 113, 63]) = false := neP p2
  by_cases hA : ∃ n, a = .num n
  · obtain ⟨x, rfl⟩ := hA
    by_cases hB : ∃ n, b = .num n
    · obtain ⟨y, rfl⟩ := hB
      rw [show twoF p (.num x) (.num y) σ = (numsF p x y, σ) from by unfold twoF; rw [if_neg p1, if_neg p2]]
      have ON : Hid (Calls Tryd.prog 85 #[.string p, .int .i64 x, .int .i64 y] w fun e w' => (∃ t x, e = .returned (.iface t x) ∨ ∃ q, e = .panicked q) ∧ ToldR B rb gb m w (numsF p x y, σ) e w') := (ofNumbers_all p x y w ha hb).mono (fun e w' hh => by
        obtain ⟨rfl, hh⟩ := hh
        refine ⟨?_, m, h, New.refl m _, KR.refl _ _ _ _ _, ?_⟩
        · cases hn : numsF p x y with
          | ok v => rw [hn] at hh; exact ⟨_, _, Or.inl (hh m).1⟩
          | bad q => rw [hn] at hh; exact ⟨0, .nilIface, Or.inr ⟨_, hh⟩⟩
        · cases hn : numsF p x y with
          | ok v => rw [hn] at hh; exact hh m
          | bad q => rw [hn] at hh; exact hh)
      have NA := hidd (fun w => numberOf_any x w)
      have NB := hidd (fun w => numberOf_any y w)
      show Calls Tryd.prog 74 #[.string p, .iface 104 (.int .i64 x), .iface 104 (.int .i64 y)] w _
      generalize (numsF p x y, σ) = R at *
      clear h ha hb p1 p2
      go_enter Tryd.func74, Tryd.ntmps74
      go_wp2_with fail
      refine (NA.out _).mono ?_
      rintro e w1 ⟨rfl, rfl⟩
      go_wp2_with fail
      refine (NB.out _).mono ?_
      rintro e w1 ⟨rfl, rfl⟩
      go_wp2_with fail
      refine ON.out.mono ?_
      rintro e w2 ⟨⟨t, x, hx⟩, hT⟩
      have HT := hidd hT
      clear hT
      rcases hx with rfl | ⟨q, rfl⟩
      · go_wp2_with fail
        go_ret
        exact HT.out
      · go_wp2_with fail
        exact ⟨rfl, HT.out⟩
    · rw [two_noB p x b σ p1 p2 hB]
      have ht : vT b ≠ 104 := vT_num hB
      have HE : Hid (ToldR B rb gb m w (.bad 4, σ) (.panicked (endP 4)) w) := ⟨m, h, New.refl m w, KR.refl _ _ _ _ _, rfl⟩
      have NA := hidd (fun w => numberOf_any x w)
      have NB := hidd (numberOf_no (vT b) ht (vX m b))
      generalize vT b = tb at *
      generalize vX m b = xb at *
      show Calls Tryd.prog 74 #[.string p, .iface 104 (.int .i64 x), .iface tb xb] w _
      clear h ha hb p1 p2 ht hB
      go_enter Tryd.func74, Tryd.ntmps74
      go_wp2_with fail
      refine (NA.out _).mono ?_
      rintro e w1 ⟨rfl, rfl⟩
      go_wp2_with fail
      refine (NB.out _).mono ?_
      rintro e w1 ⟨rfl, rfl⟩
      go_wp2_with fail
      exact ⟨rfl, HE.out⟩
  · rw [two_noA p a b σ p1 p2 hA]
    have ht : vT a ≠ 104 := vT_num hA
    have HE : Hid (ToldR B rb gb m w (.bad 4, σ) (.panicked (endP 4)) w) := ⟨m, h, New.refl m w, KR.refl _ _ _ _ _, rfl⟩
    have NA := hidd (numberOf_no (vT a) ht (vX m a))
    generalize vT b = tb at *
    generalize vX m b = xb at *
    generalize vT a = ta at *
    generalize vX m a = xa at *
    clear h ha hb p1 p2 ht hA
    go_enter Tryd.func74, Tryd.ntmps74
    go_wp2_with fail
    refine (NA.out _).mono ?_
    rintro e w1 ⟨rfl, rfl⟩
    go_wp2_with fail
    exact ⟨rfl, HE.out⟩
end
section
set_option linter.unusedVariables false
set_option linter.unusedSimpArgs false
open Go.RowKit

theorem argsTab_le (o : ByteArray) : ∀ (l : List (ByteArray × Int)), (∀ x ∈ l, x.2 = 1 ∨ x.2 = 2) → argsTab l o = 0 ∨ argsTab l o = 1 ∨ argsTab l o = 2
  | [], _ => Or.inl rfl
  | (s, n) :: r, h => by
    rw [argsTab]
    split
    · exact Or.inr (h (s, n) (by simp))
    · exact argsTab_le o r (fun x hx => h x (by simp [hx]))
theorem args_le (p : ByteArray) : argsB p = 0 ∨ argsB p = 1 ∨ argsB p = 2 := argsTab_le p primTab (by
  intro x hx
  simp only [primTab, List.mem_cons, List.not_mem_nil, or_false] at hx
  rcases hx with rfl | rfl | rfl | rfl | rfl | rfl | rfl | rfl | rfl | rfl | rfl | rfl | rfl <;> simp)
theorem ToldR.two {B rb gb : Nat} {m : Mm} {w w' : World} {r : Res Val × St} {e : Ending} (h : ToldR B rb gb m w r e w') : (∃ t x, e = .returned (.iface t x)) ∨ ∃ q, e = .panicked q := by
  obtain ⟨m', _, _, _, h⟩ := h
  cases hr : r.1 with
  | ok v => rw [hr] at h; exact Or.inl ⟨_, _, h.1⟩
  | bad q => rw [hr] at h; exact Or.inr ⟨_, h⟩
theorem ToldR.ok {B rb gb : Nat} {m : Mm} {w w' : World} {v : Val} {σ : St} {e : Ending} (h : ToldR B rb gb m w (.ok v, σ) e w') : ∃ t x, e = .returned (.iface t x) := by
  obtain ⟨m', _, _, _, h⟩ := h
  exact ⟨_, _, h.1⟩
theorem ToldR.bad {B rb gb : Nat} {m : Mm} {w w' : World} {q : Int} {σ : St} {e : Ending} (h : ToldR B rb gb m w (.bad q, σ) e w') : e = .panicked (endP q) := by
  obtain ⟨m', _, _, _, h⟩ := h
  exact h
theorem ToldR.drew {B rb gb : Nat} {m : Mm} {w w' : World} {r : Res Val × St} {e : Ending} (h : ToldR B rb gb m w.drew r e w') : ToldR B rb gb m w r e w' := by
  obtain ⟨m', h1, h2, h3, h4⟩ := h
  exact ⟨m', h1, ⟨h2.x, h2.pr, h2.rw⟩, (KR.ofBelow (Below.drew (Below.refl _ _))).trans (New.refl m w) h3, h4⟩
set_option maxRecDepth 100000 in
set_option maxHeartbeats 1600000 in
theorem prim_one (B rb gb : Nat) (m : Mm) (σ : St) (p : ByteArray) (a : Val) (N o c : Nat) (w : World) (h : Rel B rb gb m σ w) (hs : B ≤ w.heap.size) (hp : argsB p = 1) (ho : ¬ p = outF) (ha : VOk m a) (k0 : w.cell? ⟨N, o, none⟩ = some (.iface (vT a) (vX m a))) :
    Calls Tryd.prog 59 #[.pointer (some ⟨rb, 0, none⟩), .string p, .slice (some ⟨N, o, none⟩) 1 c] w (ToldR B rb gb m w (oneF p a σ)) := by
  have OT := hidd (ofOne_any B rb gb m σ p a w h hs ha)
  have AR : Hid (∀ w, Calls Tryd.prog 64 #[.string p] w fun e w' => e = .returned (.int .i64 1) ∧ w' = w) := fun w => by
    have := argsOf_any p w
    rw [hp] at this
    exact this
  have c1 : (p.toList == [111, 117, 116]) = false := neP ho
  generalize oneF p a σ = R at *
  generalize vT a = t at *
  generalize vX m a = x at *
  clear h ha hp ho
  go_enter Tryd.func59, Tryd.ntmps59
  go_wp2_with fail
  refine (AR.out _).mono ?_
  rintro e w1 ⟨rfl, rfl⟩
  go_wp2_with fail
  refine (Must_yes _ _).mono ?_
  rintro e w1 ⟨rfl, rfl⟩
  go_wp2_with fail
  refine OT.out.mono ?_
  intro e w2 hT
  have HT := hidd hT
  rcases hT.two with ⟨t2, x2, rfl⟩ | ⟨q, rfl⟩
  · clear hT
    go_wp2_with fail
    go_ret
    exact HT.out
  · clear hT
    go_wp2_with fail
    exact ⟨rfl, HT.out⟩
set_option maxRecDepth 100000 in
set_option maxHeartbeats 1600000 in
theorem prim_put (B rb gb T : Nat) (m : Mm) (σ : St) (a : Val) (N o c : Nat) (cs : Array Value) (w : World) (h : Rel B rb gb m σ w) (hs : B ≤ w.heap.size) (hT : T ≤ B) (tab : Tab T w) (ha : VOk m a) (hN : w.heap[N]? = some (.cells cs 77 (0, 0))) (hNr : N ∉ m.rw) (k0 : cs[o]? = some (.iface (vT a) (vX m a))) :
    Calls Tryd.prog 59 #[.pointer (some ⟨rb, 0, none⟩), .string outF, .slice (some ⟨N, o, none⟩) 1 c] w (ToldR B rb gb m w (putF a σ)) := by
  have OT : Hid (Calls Tryd.prog 72 #[.pointer (some ⟨rb, 0, none⟩), .iface (vT a) (vX m a)] w fun e w' => (e = .returned (.tuple #[]) ∧ w'.cell? ⟨N, o, none⟩ = some (.iface (vT a) (vX m a)) ∧ ToldR B rb gb m w (putF a σ) (.returned (.iface (vT a) (vX m a))) w') ∨ ∃ q, e = .panicked q ∧ ToldR B rb gb m w (putF a σ) (.panicked q) w') := by
    refine (put_any B rb gb T m σ a w h hs hT tab ha).mono ?_
    rintro e w' ⟨m2, r2, n2, k2, he⟩
    cases hr : (putF a σ).1 with
    | bad q =>
      rw [hr] at he
      refine Or.inr ⟨_, he, m2, r2, n2, k2, ?_⟩
      rw [hr]
    | ok v =>
      rw [hr] at he
      have hv : v = a := by
        unfold putF at hr
        split at hr
        · cases hs : showF 1000 a ⟨[], 0⟩ σ with
          | mk x s =>
            rw [hs] at hr
            cases x with
            | ok x => simp only [Res.ok.injEq] at hr; exact hr.symm
            | bad q => cases hr
        · cases hr
      subst hv
      refine Or.inl ⟨he, (cellO (k2.row h hN hNr)).trans k0, m2, r2, n2, k2, ?_⟩
      rw [hr]
      exact ⟨by rw [vX_up ha n2.x], ha.up n2.x⟩
  have AR : Hid (∀ w, Calls Tryd.prog 64 #[.string ⟨#[111, 117, 116]⟩] w fun e w' => e = .returned (.int .i64 1) ∧ w' = w) := fun w => by
    have := argsOf_any outF w
    rw [show argsB outF = 1 by decide +kernel] at this
    exact this
  have c0 : w.cell? ⟨N, o, none⟩ = some (.iface (vT a) (vX m a)) := (cellO hN).trans k0
  unfold outF
  generalize putF a σ = R at *
  generalize vT a = t at *
  generalize vX m a = x at *
  clear h ha hN hNr tab k0
  go_enter Tryd.func59, Tryd.ntmps59
  go_wp2_with fail
  refine (AR.out _).mono ?_
  rintro e w1 ⟨rfl, rfl⟩
  go_wp2_with fail
  refine (Must_yes _ _).mono ?_
  rintro e w1 ⟨rfl, rfl⟩
  go_wp2_with fail
  refine OT.out.mono ?_
  intro e w2 hX
  rcases hX with ⟨rfl, d0, hX⟩ | ⟨q, rfl, hX⟩
  · have HX := hidd hX
    clear hX
    go_wp2_with fail
    go_ret
    exact HX.out
  · have HX := hidd hX
    clear hX
    go_wp2_with fail
    exact ⟨rfl, HX.out⟩
set_option maxRecDepth 100000 in
set_option maxHeartbeats 3200000 in
theorem prim_twos (B rb gb : Nat) (m : Mm) (σ : St) (p : ByteArray) (a b : Val) (N o c : Nat) (w : World) (h : Rel B rb gb m σ w) (hs : B ≤ w.heap.size) (hp : argsB p = 2) (ha : VOk m a) (hb : VOk m b) (k0 : w.cell? ⟨N, o, none⟩ = some (.iface (vT a) (vX m a))) (k1 : w.cell? ⟨N, o + 1, none⟩ = some (.iface (vT b) (vX m b))) :
    Calls Tryd.prog 59 #[.pointer (some ⟨rb, 0, none⟩), .string p, .slice (some ⟨N, o, none⟩) 2 c] w (ToldR B rb gb m w (twoF p a b σ)) := by
  have OT : Hid (Calls Tryd.prog 74 #[.string p, .iface (vT a) (vX m a), .iface (vT b) (vX m b)] w.drew (ToldR B rb gb m w.drew (twoF p a b σ))) := ofTwo_any B rb gb m σ p a b w.drew (h.below (Below.drew (Below.refl _ _)) hs) hs ha hb
  have AR : Hid (∀ w, Calls Tryd.prog 64 #[.string p] w fun e w' => e = .returned (.int .i64 2) ∧ w' = w) := fun w => by
    have := argsOf_any p w
    rw [hp] at this
    exact this
  have ho : ¬ p = outF := by
    rintro rfl
    exact absurd hp (by decide +kernel)
  have c1 : (p.toList == [111, 117, 116]) = false := neP ho
  generalize vT a = ta at *
  generalize vX m a = xa at *
  generalize vT b = tb at *
  generalize vX m b = xb at *
  clear h ha hb hp ho
  cases hR : twoF p a b σ with
  | mk R σ1 =>
    rw [hR] at OT
    clear hR
    cases R with
    | bad q =>
      go_enter Tryd.func59, Tryd.ntmps59
      go_wp2_with fail
      refine (AR.out _).mono ?_
      rintro e w1 ⟨rfl, rfl⟩
      go_wp2_with fail
      refine (Must_yes _ _).mono ?_
      rintro e w1 ⟨rfl, rfl⟩
      go_wp2_with fail
      go_region_dies
      all_goals
        refine OT.out.mono ?_
        intro e w2 hT
        obtain rfl := hT.bad
        have HT := hidd hT.drew
        clear hT
        go_wp2_with fail
        exact ⟨rfl, HT.out⟩
    | ok v =>
      go_enter Tryd.func59, Tryd.ntmps59
      go_wp2_with fail
      refine (AR.out _).mono ?_
      rintro e w1 ⟨rfl, rfl⟩
      go_wp2_with fail
      refine (Must_yes _ _).mono ?_
      rintro e w1 ⟨rfl, rfl⟩
      go_wp2_with fail
      go_region_with (go_at_call 74; refine OT.out.mono ?_; intro e w2 hT; obtain ⟨t2, x2, rfl⟩ := hT.ok; have HT := hidd hT.drew; clear hT)
      all_goals
        go_wp2_with fail
        go_ret
        exact HT.out
set_option maxRecDepth 100000 in
set_option maxHeartbeats 1600000 in
theorem prim_few (B rb gb : Nat) (m : Mm) (σ : St) (p : ByteArray) (n c : Nat) (a : Option Addr) (w : World) (h : Rel B rb gb m σ w) (hn : n ≤ 3000) (hp : ¬ (n : Int) = argsB p) :
    Calls Tryd.prog 59 #[.pointer (some ⟨rb, 0, none⟩), .string p, .slice a n c] w (ToldR B rb gb m w (.bad 5, σ)) := by
  have HE : Hid (ToldR B rb gb m w (.bad 5, σ) (.panicked (endP 5)) w) := ⟨m, h, New.refl m w, KR.refl _ _ _ _ _, rfl⟩
  have AR := hidd (argsOf_any p)
  generalize argsB p = k at *
  have hd : ((n : Int) == k) = false := by simpa using hp
  clear h hp
  go_enter Tryd.func59, Tryd.ntmps59
  go_wp2_with fail
  refine (AR.out _).mono ?_
  rintro e w1 ⟨rfl, rfl⟩
  go_wp2_with fail
  refine (Must_no _ _).mono ?_
  rintro e w1 ⟨rfl, rfl⟩
  go_wp2_with fail
  exact ⟨rfl, HE.out⟩
/-- ANY PRIMITIVE IS CALLED as primF says. -/
theorem prim_any (B rb gb T : Nat) (m : Mm) (σ : St) (p : ByteArray) (vs : List Val) (N c : Nat) (cs : Array Value) (a : Option Addr) (w : World) (h : Rel B rb gb m σ w) (hs : B ≤ w.heap.size) (hT : T ≤ B) (tab : Tab T w) (hp : argsB p ≠ 0) (hv : ∀ v ∈ vs, VOk m v)
    (hN : w.heap[N]? = some (.cells cs 77 (0, 0))) (hNr : N ∉ m.rw) (hcs : ∀ i v, vs[i]? = some v → cs[1 + i]? = some (vV m v)) (ha : vs ≠ [] → a = some ⟨N, 1, none⟩) (hn : vs.length ≤ 3000) :
    Calls Tryd.prog 59 #[.pointer (some ⟨rb, 0, none⟩), .string p, .slice a vs.length c] w (ToldR B rb gb m w (primF p vs σ)) := by
  unfold primF
  by_cases hl : (vs.length : Int) = argsB p
  · rw [if_pos hl]
    rcases args_le p with h0 | h1 | h2
    · exact absurd h0 hp
    · match vs, hl with
      | [], hl => rw [h1] at hl; simp at hl
      | [x], hl =>
        obtain rfl := ha (by simp)
        have k0 := hcs 0 x rfl
        simp only
        by_cases ho : p = outF
        · rw [if_pos ho]
          subst ho
          exact prim_put B rb gb T m σ x N 1 c cs w h hs hT tab (hv x (by simp)) hN hNr k0
        · rw [if_neg ho]
          exact prim_one B rb gb m σ p x N 1 c w h hs h1 ho (hv x (by simp)) ((cellO hN).trans k0)
      | x :: y :: r, hl => rw [h1] at hl; simp at hl; omega
    · match vs, hl with
      | [], hl => rw [h2] at hl; simp at hl
      | [x], hl => rw [h2] at hl; simp at hl
      | [x, y], hl =>
        obtain rfl := ha (by simp)
        exact prim_twos B rb gb m σ p x y N 1 c w h hs h2 (hv x (by simp)) (hv y (by simp)) ((cellO hN).trans (hcs 0 x rfl)) ((cellO hN).trans (hcs 1 y rfl))
      | x :: y :: z :: r, hl => rw [h2] at hl; simp at hl; omega
  · rw [if_neg hl]
    exact prim_few B rb gb m σ p vs.length c a w h hn hl
end
section
set_option linter.unusedVariables false
set_option linter.unusedSimpArgs false
open Go.RowKit

/-- What is known where a call is made. -/
structure CA (B rb gb T f : Nat) (m0 : Mm) (σ0 : St) (w0 : World) (m : Mm) (σ : St) (w : World) (N : Nat) (v0 : Val) (vs : List Val) : Prop where
  cur : Cur B rb gb m0 σ0 w0 m σ w
  hs0 : B ≤ w0.heap.size
  hT : T ≤ B
  tab : Tab T w
  hN : w0.heap.size ≤ N
  nr : N ∉ m.rw
  blk : w.heap[N]? = some (.cells ((v0 :: vs).map (vV m)).toArray 77 (0, 0))
  ok : ∀ v ∈ v0 :: vs, VOk m v
  len : vs.length ≤ 3000
  calls : σ.calls = σ0.calls
  calls9 : σ.calls ≤ 200
  left : σ.left ≤ 1000000
  fuel : σ.left < f
theorem CA.hs {B rb gb T f : Nat} {m0 : Mm} {σ0 : St} {w0 : World} {m : Mm} {σ : St} {w : World} {N : Nat} {v0 : Val} {vs : List Val} (h : CA B rb gb T f m0 σ0 w0 m σ w N v0 vs) : B ≤ w.heap.size := Nat.le_trans h.hs0 h.cur.kr.size
theorem CA.first {B rb gb T f : Nat} {m0 : Mm} {σ0 : St} {w0 : World} {m : Mm} {σ : St} {w : World} {N : Nat} {v0 : Val} {vs : List Val} (h : CA B rb gb T f m0 σ0 w0 m σ w N v0 vs) : w.cell? ⟨N, 0, none⟩ = some (.iface (vT v0) (vX m v0)) := (cellO h.blk).trans rfl
/-- What is told, passed on. -/
def Thru (Q : Ending → World → Prop) (e : Ending) (w' : World) : Prop := Q e w'
set_option maxRecDepth 100000 in
set_option maxHeartbeats 1600000 in
theorem call_raw1 (rb N : Nat) (s : ByteArray) (Q : Ending → World → Prop) (w : World) (k0 : w.cell? ⟨N, 0, none⟩ = some (.iface 114 (.string s)))
    (HP : ∀ c, Calls Tryd.prog 59 #[.pointer (some ⟨rb, 0, none⟩), .string s, .slice (some ⟨N, 0, none⟩) 0 c] w fun e w' => ((∃ t x, e = .returned (.iface t x)) ∨ ∃ q, e = .panicked q) ∧ Q e w') :
    Calls Tryd.prog 44 #[.pointer (some ⟨rb, 0, none⟩), .slice (some ⟨N, 0, none⟩) 1 1] w (Thru Q) := by
  have HPP := hidd HP
  clear HP
  have hta := assertP (.string s)
  go_enter Tryd.func44, Tryd.ntmps44
  go_wp2_with fail
  refine (HPP.out _).mono ?_
  rintro en w3 ⟨h2, ht⟩
  have HT := hidd ht
  clear ht
  rcases h2 with ⟨t, x, rfl⟩ | ⟨q, rfl⟩
  · go_wp2_with fail
    go_ret
    exact HT.out
  · go_wp2_with fail
    exact ⟨rfl, HT.out⟩
set_option maxRecDepth 100000 in
set_option maxHeartbeats 1600000 in
theorem call_raw2 (rb N k : Nat) (s : ByteArray) (Q : Ending → World → Prop) (w : World) (hk : 0 < k) (hk9 : k ≤ 3000) (k0 : w.cell? ⟨N, 0, none⟩ = some (.iface 114 (.string s)))
    (HP : ∀ c, Calls Tryd.prog 59 #[.pointer (some ⟨rb, 0, none⟩), .string s, .slice (some ⟨N, 1, none⟩) k c] w fun e w' => ((∃ t x, e = .returned (.iface t x)) ∨ ∃ q, e = .panicked q) ∧ Q e w') :
    Calls Tryd.prog 44 #[.pointer (some ⟨rb, 0, none⟩), .slice (some ⟨N, 0, none⟩) (k + 1) (k + 1)] w (Thru Q) := by
  have HPP := hidd HP
  clear HP
  have hta := assertP (.string s)
  have hq : (((k + 1 : Nat) : Int) - 1) = k := by omega
  have hd1 : decide (((k + 1 : Nat) : Int) < 1) = false := by simp; omega
  have hk0 : ¬ k = 0 := by omega
  go_enter Tryd.func44, Tryd.ntmps44
  go_wp2_with fail
  refine (HPP.out _).mono ?_
  rintro en w3 ⟨h2, ht⟩
  have HT := hidd ht
  clear ht
  rcases h2 with ⟨t, x, rfl⟩ | ⟨q, rfl⟩
  · go_wp2_with fail
    go_ret
    exact HT.out
  · go_wp2_with fail
    exact ⟨rfl, HT.out⟩
/-- A primitive is called. -/
theorem call_primE {B rb gb T f : Nat} {m0 : Mm} {σ0 : St} {w0 : World} {m : Mm} {σ : St} {w : World} {N : Nat} {p : ByteArray} {vs : List Val} (h : CA B rb gb T f m0 σ0 w0 m σ w N (.prim p) vs) :
    Calls Tryd.prog 44 #[.pointer (some ⟨rb, 0, none⟩), .slice (some ⟨N, 0, none⟩) (vs.length + 1) (vs.length + 1)] w (ToldE B rb gb m0 σ0 w0 (primF p vs σ)) := by
  have HP : ∀ a c, (vs ≠ [] → a = some ⟨N, 1, none⟩) → Calls Tryd.prog 59 #[.pointer (some ⟨rb, 0, none⟩), .string p, .slice a vs.length c] w fun e w' => ((∃ t x, e = .returned (.iface t x)) ∨ ∃ q, e = .panicked q) ∧ ToldE B rb gb m0 σ0 w0 (primF p vs σ) e w' := fun a c ha =>
    (prim_any B rb gb T m σ p vs N c _ a w h.cur.rel h.hs h.hT h.tab (h.ok (.prim p) (by simp)) (fun v hv => h.ok v (by simp [hv])) h.blk h.nr (fun i v hi => by
      have e : (List.map (vV m) (Val.prim p :: vs)).toArray[1 + i]? = (vs.map (vV m))[i]? := by rw [Nat.add_comm]; simp
      rw [e, List.getElem?_map, hi]
      rfl) ha h.len).mono (fun e w' ht => ⟨ht.two, ToldE.ofR h.cur h.calls ht (prim_qt p vs σ)⟩)
  cases vs with
  | nil => exact call_raw1 rb N p _ w h.first (fun c => HP _ c (fun q => absurd rfl q))
  | cons a t => exact call_raw2 rb N (a :: t).length p _ w (by simp) h.len h.first (fun c => HP _ c (fun _ => rfl))
set_option maxRecDepth 100000 in
set_option maxHeartbeats 1600000 in
theorem call_raw3 (rb N k : Nat) (t : TypeId) (x : Value) (Q : Ending → World → Prop) (w : World) (hk9 : k ≤ 3000) (t1 : t ≠ 114) (t2 : t ≠ 115) (k0 : w.cell? ⟨N, 0, none⟩ = some (.iface t x)) (HQ : Q (.panicked (endP 4)) w) :
    Calls Tryd.prog 44 #[.pointer (some ⟨rb, 0, none⟩), .slice (some ⟨N, 0, none⟩) (k + 1) (k + 1)] w (Thru Q) := by
  have HPP : Hid (Thru Q (.panicked (endP 4)) w) := HQ
  clear HQ
  have hta := no114 t t1 x
  have htb := no115 t t2 x
  have hq : (((k + 1 : Nat) : Int) - 1) = k := by omega
  have hd1 : decide (((k + 1 : Nat) : Int) < 1) = false := by simp; omega
  clear t1 t2
  go_enter Tryd.func44, Tryd.ntmps44
  go_wp2_with fail
  all_goals
    refine (Must_no _ _).mono ?_
    rintro en w3 ⟨rfl, rfl⟩
    go_wp2_with fail
    exact ⟨rfl, HPP.out⟩
/-- What can't be called is called. -/
theorem call_elseE {B rb gb T f : Nat} {m0 : Mm} {σ0 : St} {w0 : World} {m : Mm} {σ : St} {w : World} {N : Nat} {v0 : Val} {vs : List Val} (h : CA B rb gb T f m0 σ0 w0 m σ w N v0 vs) (t1 : vT v0 ≠ 114) (t2 : vT v0 ≠ 115) :
    Calls Tryd.prog 44 #[.pointer (some ⟨rb, 0, none⟩), .slice (some ⟨N, 0, none⟩) (vs.length + 1) (vs.length + 1)] w (ToldE B rb gb m0 σ0 w0 (.bad 4, σ)) :=
  call_raw3 rb N vs.length _ _ _ w h.len t1 t2 h.first ⟨m, h.cur, rfl⟩
end
end Go.Proofs.YthooljlikllnpaaDoor
