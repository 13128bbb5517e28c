/- Package graph: leastInRing. -/
import Derived.Test.YtilcongilokppadKc
namespace Go.Proofs.Ytilcongilokppad
set_option linter.unusedVariables false
set_option linter.unusedSimpArgs false
open Go.RowKit Go.Shelf
attribute [local go_sem] Oper.semAt_some

/-- What leastInRing keeps. -/
structure RM (w : World) (web : Array Value) (n : Nat) (ms : List Bool) (ua : Option Addr) (uc least : Nat) (W : World) : Prop where
  old : Below w.heap.size w W
  web : W.heap[w.heap.size]? = some (.cells web 40 (0, 0))
  lb : W.heap[w.heap.size + 1]? = some (.cells #[.int .i64 (least : Int)] 3 (0, 0))
  gm : GM (w.heap.size + 1 + 1 + 1 + 1) (w.heap.size + 1 + 1 + 1) (w.heap.size + 1 + 1) n ms ua uc W
  gb : W.heap[w.heap.size + 1 + 1 + 1 + 1 + 1]? = some (.cells #[.func (.func 36) #[] #[.pointer (some ⟨w.heap.size + 1 + 1 + 1 + 1, 0, none⟩), .pointer (some ⟨w.heap.size + 1 + 1, 0, none⟩)]] 59 (0, 0))

section
variable {w W W' : World} {web : Array Value} {n : Nat} {ms ms' : List Bool} {ua : Option Addr} {uc least : Nat}
theorem RM.size (H : RM w web n ms ua uc least W) : w.heap.size + 1 + 1 + 1 + 1 + 1 < W.heap.size := (Array.getElem?_eq_some_iff.1 H.gb).1
theorem RM.kept (H : RM w web n ms ua uc least W) (hb : Below (w.heap.size + 1 + 1 + 1 + 1 + 1 + 1) W W') : RM w web n ms ua uc least W' := by
  have hs := H.size
  exact ⟨H.old.trans (hb.mono (by omega)), (hb.block _ (by omega)).trans H.web, (hb.block _ (by omega)).trans H.lb, H.gm.kept fun k hk h => hb.block k (by omega), (hb.block _ (by omega)).trans H.gb⟩
theorem RM.gather (H : RM w web n ms ua uc least W) (ht : Tc (fun k => k = w.heap.size + 1 + 1 + 1) W W') (hg : GM (w.heap.size + 1 + 1 + 1 + 1) (w.heap.size + 1 + 1 + 1) (w.heap.size + 1 + 1) n ms' ua uc W') : RM w web n ms' ua uc least W' := by
  have hs := H.size
  exact ⟨H.old.trans (ht.below H.old.size fun k hk => by omega), (ht.block _ (by omega) (by omega)).trans H.web, (ht.block _ (by omega) (by omega)).trans H.lb, hg, (ht.block _ (by omega) (by omega)).trans H.gb⟩
theorem RM.set (H : RM w web n ms ua uc least W) (y : Nat) : RM w web n ms ua uc y (W.setCell ⟨w.heap.size + 1, 0, none⟩ (.int .i64 (y : Int))) := by
  have o : ∀ k, k ≠ w.heap.size + 1 → (W.setCell ⟨w.heap.size + 1, 0, none⟩ (.int .i64 (y : Int))).heap[k]? = W.heap[k]? := fun k hk => Below.heap_setCell _ _ _ _ hk
  exact ⟨H.old.setCell (p := ⟨w.heap.size + 1, 0, none⟩) (by show _ ≤ w.heap.size + 1; omega) _, (o _ (by omega)).trans H.web, heap_setCell H.lb (by simp) _, H.gm.kept fun k hk h => o k (by omega), (o _ (by omega)).trans H.gb⟩
/-- The turn of a block that is no cells. -/
theorem RM.own (H : RM w web n ms ua uc least W) {row : Option Nat} (hg : W.grownBy W' row) (hr : ∀ r, row = some r → w.heap.size ≤ r ∧ ∃ o : Obj, W.heap[r]? = some o ∧ o.isCells = false) : RM w web n ms ua uc least W' := by
  have hk : ∀ (k : Nat) (c : Array Value) (e : TypeId) (f : Nat × Nat), W.heap[k]? = some (.cells c e f) → W'.heap[k]? = W.heap[k]? := fun k c e f h => hg.block k (Array.getElem?_eq_some_iff.1 h).1 fun q => by
    obtain ⟨_, o, h1, h2⟩ := hr k q.symm
    rw [h] at h1
    cases h1
    cases h2
  exact ⟨Below.grown H.old hg H.old.size fun k hk => (hr k hk).1, (hk _ _ _ _ H.web).trans H.web, (hk _ _ _ _ H.lb).trans H.lb, ⟨(hk _ _ _ _ H.gm.mbox).trans H.gm.mbox, (hk _ _ _ _ H.gm.mrow).trans H.gm.mrow, H.gm.mlen, (hk _ _ _ _ H.gm.wbox).trans H.gm.wbox⟩, (hk _ _ _ _ H.gb).trans H.gb⟩
end

theorem RM.start {w w1 : World} {web : Array Value} {n : Nat} {ua : Option Addr} {uc : Nat} (hb : Below (w.heap.size + 1 + 1) ((w.alloc (.cells web 40)).alloc (.cells #[.int .i64 (n : Int)] 3)) w1) (hs : w1.heap.size = w.heap.size + 1 + 1 + 1 + 1 + 1)
    (hg : GM (w.heap.size + 1 + 1 + 1 + 1) (w.heap.size + 1 + 1 + 1) (w.heap.size + 1 + 1) n (List.replicate n false) ua uc w1) :
    RM w web n (List.replicate n false) ua uc n (w1.alloc (.cells #[.func (.func 36) #[] #[.pointer (some ⟨w.heap.size + 1 + 1 + 1 + 1, 0, none⟩), .pointer (some ⟨w.heap.size + 1 + 1, 0, none⟩)]] 59)) := by
  have a0 := fun (u : World) (o : Obj) (k : Nat) (h : k < u.heap.size) => Below.heap_alloc u o k h
  have h0 : Below w.heap.size w ((w.alloc (.cells web 40)).alloc (.cells #[.int .i64 (n : Int)] 3)) := ((Below.refl _ _).alloc (Nat.le_refl _) _).alloc (by simp) _
  refine ⟨(h0.trans (hb.mono (by omega))).alloc (by omega) _, ?_, ?_, hg.kept fun k hk _ => a0 _ _ _ hk, ?_⟩
  · rw [a0 _ _ _ (by omega), hb.block _ (by omega), a0 _ _ _ (by simp)]
    exact heap_alloc_new w _
  · rw [a0 _ _ _ (by omega), hb.block _ (by omega)]
    have := heap_alloc_new (w.alloc (.cells web 40)) (.cells #[.int .i64 (n : Int)] 3)
    simpa using this
  · have := heap_alloc_new w1 (.cells #[.func (.func 36) #[] #[.pointer (some ⟨w.heap.size + 1 + 1 + 1 + 1, 0, none⟩), .pointer (some ⟨w.heap.size + 1 + 1, 0, none⟩)]] 59)
    rw [hs] at this
    exact this

theorem Left.len {n : Nat} {N : Nat → List Nat} {o : List Nat} (h : Left n N o) : o.length = n := by
  have h1 := nodup_len o (List.range n) h.nd fun x hx => List.mem_range.2 (h.lt x hx)
  have h2 := nodup_len (List.range n) o List.nodup_range fun x hx => h.all x (List.mem_range.1 hx)
  simp at h1 h2
  omega
theorem Ring.len {n : Nat} {N U : Nat → List Nat} {met0 met : Nat → Bool} {fr : Nat} {out : List Nat} (h : Ring n N U met0 fr out met) : out.length ≤ n := by
  have := nodup_len out (List.range n) h.nd fun x hx => List.mem_range.2 (h.lt x hx)
  simpa using this
theorem pre_at {n : Nat} {pre : List (Two2 n)} {x : Two2 n} {o : List Nat} (h : vals (pre ++ [x]) <+: o.reverse) (hl : pre.length < o.length) : vals pre <+: o.reverse ∧ o[o.length - (pre.length + 1)]? = some x.1.2 := by
  have e : vals (pre ++ [x]) = vals pre ++ [x.1.2] := by simp [vals]
  rw [e] at h
  refine ⟨(List.prefix_append _ _).trans h, ?_⟩
  obtain ⟨t, ht⟩ := h
  have h1 : o.reverse[pre.length]? = some x.1.2 := by
    rw [← ht, List.append_assoc, List.getElem?_append_right (by simp [vals])]
    simp [vals]
  rw [List.getElem?_reverse hl] at h1
  rw [show o.length - (pre.length + 1) = o.length - 1 - pre.length by omega]
  exact h1
/-- Between two rounds. -/
def RI (w : World) (web : Array Value) (n : Nat) (ua : Option Addr) (uc : Nat) (N U : Nat → List Nat) (o : List Nat) (S0 : Nat) (pre : List (Two2 n)) (W : World) : Prop :=
  S0 ≤ W.heap.size ∧ ∃ ms least, RM w web n ms ua uc least W ∧ least ≤ n ∧ (vals pre <+: o.reverse → Lea n N U o (o.length - pre.length) (metF ms) least)

/-- A round is over. -/
theorem RI.next {w W Wm W2 : World} {web : Array Value} {n : Nat} {ms ms' : List Bool} {ua : Option Addr} {uc least y bx g S0 : Nat} {N U : Nat → List Nat} {o : List Nat} {pre : List (Two2 n)} {x : Two2 n}
    (hS0 : S0 ≤ W.heap.size) (H : RM w web n ms ua uc least W) (h4 : RM w web n ms' ua uc y Wm) (ht : Tc (fun k => k = w.heap.size + 1 + 1 + 1 ∨ k = w.heap.size + 1) W Wm) (hb : Below Wm.heap.size Wm W2)
    (h1 : w.heap.size + 1 + 1 + 1 + 1 + 1 + 1 ≤ bx) (h2 : bx < S0) (h3 : w.heap.size + 1 + 1 + 1 + 1 + 1 + 1 ≤ g) (h5 : g < S0) (hy : y ≤ n) (hl : vals (pre ++ [x]) <+: o.reverse → Lea n N U o (o.length - (pre.length + 1)) (metF ms') y) :
    KeepsOthers W W2 ∧ Kp2 bx g W W2 ∧ RI w web n ua uc N U o S0 (pre ++ [x]) W2 := by
  have hs1 := ht.size
  have hs2 := hb.size
  have same : ∀ k, k < W.heap.size → k ≠ w.heap.size + 1 + 1 + 1 → k ≠ w.heap.size + 1 → W2.heap[k]? = W.heap[k]? := fun k hk e1 e2 => (hb.block k (by omega)).trans (ht.block k hk (by omega))
  refine ⟨⟨by omega, fun k ob hk ho => ?_⟩, ⟨same bx (by omega) (by omega) (by omega), same g (by omega) (by omega) (by omega)⟩, by omega, ms', y, h4.kept (hb.mono (by have := h4.size; omega)), hy, fun h => ?_⟩
  · refine (same k (Array.getElem?_eq_some_iff.1 hk).1 (fun e => ?_) (fun e => ?_)).trans hk
    · subst e
      rw [H.gm.mrow] at hk
      cases hk
      cases ho
    · subst e
      rw [H.lb] at hk
      cases hk
      cases ho
  · rw [List.length_append]
    exact hl h

set_option maxRecDepth 100000 in
set_option maxHeartbeats 6400000 in
theorem leastInRing_any (B n : Nat) (Nn Uu : List (List Nat)) (two : Two n Nn Uu) (na da ua : Option Addr) (nc dc uc : Nat) (w : World) (hN : Mat B w da Nn) (hU : Mat B w ua Uu) (hB : B ≤ w.heap.size) (hn : n ≤ 1048576) (h0 : 0 < n) :
    Calls Try.prog 17 #[.agg #[.slice na n nc, .slice da n dc, .slice ua n uc]] w fun e w' => Below w.heap.size w w' ∧ ∃ r : Nat, e = .returned (.int .i64 r) ∧ r ≤ n ∧ (r < n → Rch (row Nn) r r) ∧ ∀ k, k < n → Rch (row Nn) k k → r ≤ k := by
  have HM : Hid (Mat B w da Nn ∧ Mat B w ua Uu ∧ B ≤ w.heap.size ∧ Two n Nn Uu) := ⟨hN, hU, hB, two⟩
  clear hN hU hB two
  refine (callsIn_wide (n := 3)).1 ?_
  refine callsIn_of_wp_marks Try.func17 rfl trivial ?_ rfl
  simp only [Try.ntmps17, List.size_toArray, List.length_cons, List.length_nil, Nat.reduceAdd, Nat.reduceSub, Array.replicate_succ, Array.replicate_zero, List.push_toArray, List.append_toArray, List.nil_append, List.cons_append]
  have GA : Hid (Calls Try.prog 27 #[.slice ua n uc] ((w.alloc (.cells #[.slice na n nc, .slice da n dc, .slice ua n uc] 40)).alloc (.cells #[.int .i64 (n : Int)] 3)) fun e w' => e = .returned (.func (.func 36) #[] #[.pointer (some ⟨w.heap.size + 1 + 1 + 1 + 1, 0, none⟩), .pointer (some ⟨w.heap.size + 1 + 1, 0, none⟩)]) ∧ Below (w.heap.size + 1 + 1) ((w.alloc (.cells #[.slice na n nc, .slice da n dc, .slice ua n uc] 40)).alloc (.cells #[.int .i64 (n : Int)] 3)) w' ∧ w'.heap.size = w.heap.size + 1 + 1 + 1 + 1 + 1 ∧ GM (w.heap.size + 1 + 1 + 1 + 1) (w.heap.size + 1 + 1 + 1) (w.heap.size + 1 + 1) n (List.replicate n false) ua uc w') := by
    have := gatherer_any n ua uc ((w.alloc (.cells #[.slice na n nc, .slice da n dc, .slice ua n uc] 40)).alloc (.cells #[.int .i64 (n : Int)] 3)) hn
    simp only [World.size_alloc] at this
    exact this
  gi_wp2_with fail
  refine ⟨trivial, (callsIn_wide.2 GA.out).mono ?_⟩
  rintro e w1 ⟨rfl, hb1, hs1, hg1⟩
  have H2 : Hid (RM w #[.slice na n nc, .slice da n dc, .slice ua n uc] n (List.replicate n false) ua uc n (w1.alloc (.cells #[.func (.func 36) #[] #[.pointer (some ⟨w.heap.size + 1 + 1 + 1 + 1, 0, none⟩), .pointer (some ⟨w.heap.size + 1 + 1, 0, none⟩)]] 59))) := RM.start hb1 hs1 hg1
  have hbox : w1.cell? ⟨w.heap.size, 1, none⟩ = some (.slice da n dc) := by
    have h1 : w1.heap[w.heap.size]? = some (.cells #[.slice na n nc, .slice da n dc, .slice ua n uc] 40 (0, 0)) := by
      rw [hb1.block _ (by omega), Below.heap_alloc _ _ _ (by simp)]
      exact heap_alloc_new w _
    simp [World.cell?, h1]
  have hbox2 : (w1.alloc (.cells #[.func (.func 36) #[] #[.pointer (some ⟨w.heap.size + 1 + 1 + 1 + 1, 0, none⟩), .pointer (some ⟨w.heap.size + 1 + 1, 0, none⟩)]] 59)).cell? ⟨w.heap.size, 1, none⟩ = some (.slice da n dc) := by
    simp [World.cell?, H2.out.web]
  have LE : Hid (Calls Try.prog 29 #[.slice da n dc] (w1.alloc (.cells #[.func (.func 36) #[] #[.pointer (some ⟨w.heap.size + 1 + 1 + 1 + 1, 0, none⟩), .pointer (some ⟨w.heap.size + 1 + 1, 0, none⟩)]] 59)) fun e w' => Below (w1.alloc (.cells #[.func (.func 36) #[] #[.pointer (some ⟨w.heap.size + 1 + 1 + 1 + 1, 0, none⟩), .pointer (some ⟨w.heap.size + 1 + 1, 0, none⟩)]] 59)).heap.size (w1.alloc (.cells #[.func (.func 36) #[] #[.pointer (some ⟨w.heap.size + 1 + 1 + 1 + 1, 0, none⟩), .pointer (some ⟨w.heap.size + 1 + 1, 0, none⟩)]] 59)) w' ∧ ∃ o v, e = .returned v ∧ RowI (w1.alloc (.cells #[.func (.func 36) #[] #[.pointer (some ⟨w.heap.size + 1 + 1 + 1 + 1, 0, none⟩), .pointer (some ⟨w.heap.size + 1 + 1, 0, none⟩)]] 59)).heap.size v o w' ∧ Left n (row Nn) o) :=
    left_any B n Nn da dc _ (HM.out.1.stay (fun k hk => H2.out.old.block k (Nat.lt_of_lt_of_le hk HM.out.2.2.1)) (Nat.le_refl _)) HM.out.2.2.2.ln HM.out.2.2.2.nlt (Nat.le_trans HM.out.2.2.1 H2.out.old.size) hn
  clear hb1 hg1 GA hbox
  gi_wp2_with fail
  refine ⟨trivial, (callsIn_wide.2 LE.out).mono ?_⟩
  rintro e w3 ⟨hb3, o, v, rfl, hr3, hleft⟩
  have hol : o.length = n := hleft.len
  obtain ⟨g, cap, hv, hg1, hg2, hcap⟩ := hr3.is (by omega)
  rw [hol] at hv
  subst hv
  have H3 : Hid (RM w #[.slice na n nc, .slice da n dc, .slice ua n uc] n (List.replicate n false) ua uc n (w3.alloc (.cells #[.slice (some ⟨g, 0, none⟩) n cap] 43)) ∧ Left n (row Nn) o ∧ RowI (w.heap.size + 1 + 1 + 1 + 1 + 1 + 1) (.slice (some ⟨g, 0, none⟩) n cap) o w3) := by
    have e : (w1.alloc (.cells #[.func (.func 36) #[] #[.pointer (some ⟨w.heap.size + 1 + 1 + 1 + 1, 0, none⟩), .pointer (some ⟨w.heap.size + 1 + 1, 0, none⟩)]] 59)).heap.size = w.heap.size + 1 + 1 + 1 + 1 + 1 + 1 := by simp [hs1]
    rw [e] at hb3 hr3
    exact ⟨(H2.out.kept hb3).kept ((Below.refl _ _).alloc (by have := hb3.size; rw [e] at this; omega) _), hleft, hr3⟩
  clear hb3 hleft hr3 LE hbox2 H2
  gi_wp2_with fail
  refine ⟨trivial, (callsIn_wide.2 (Backward_any _ _ _ _)).mono ?_⟩
  rintro e w4 ⟨rfl, rfl⟩
  gi_wp2_with fail
  have hbx : (w3.alloc (.cells #[.slice (some ⟨g, 0, none⟩) n cap] 43)).heap[w3.heap.size]? = some (.cells #[.slice (some ⟨g, 0, none⟩) n cap] 43 (0, 0)) := heap_alloc_new w3 _
  have hcs : ∀ (j z : Nat), o[j]? = some z → (w3.alloc (.cells #[.slice (some ⟨g, 0, none⟩) n cap] 43)).cell? ⟨g, j, none⟩ = some (.int .i64 (z : Int)) := by
    intro j z hj
    have hjl := (List.getElem?_eq_some_iff.1 hj).1
    have h1 := H3.out.2.2.cell hjl
    rw [show o.getD j 0 = z by rw [List.getD_eq_getElem?_getD, hj]; rfl] at h1
    exact (World.cell?_of_block (a := ⟨g, j, none⟩) (Below.heap_alloc _ _ _ hg2)).trans h1
  have hsz : w.heap.size ≤ (w3.alloc (.cells #[.slice (some ⟨g, 0, none⟩) n cap] 43)).heap.size := H3.out.1.old.size
  refine wpIn_rangeFunc_ownF (F := Fence.wide) (n := 3) rfl (by decide) (gf := 38) (lb := #[.pointer (some ⟨w3.heap.size, 0, none⟩)]) rfl trivial (enters_of Try.func38 (by kernel_rfl) rfl)
    (back_stops n 2 (by decide) w3.heap.size g n cap o hol (Nat.le_refl _) hn H3.out.2.1.lt (w3.alloc (.cells #[.slice (some ⟨g, 0, none⟩) n cap] 43)) hbx (by simp; omega) hcs)
    (fun h k => ⟨k.1.trans h.1, k.2.trans h.2⟩) (fun W l o o' hl _ _ _ => ⟨World.putObj_heap_other (by simp at hl; omega), World.putObj_heap_other (by simp at hl; omega)⟩) (Below.refl _ _) (fun _ => rfl)
    (RI w #[.slice na n nc, .slice da n dc, .slice ua n uc] n ua uc (row Nn) (row Uu) o (w3.heap.size + 1)) (fun _ _ _ => False)
    (fun pre W W' rw ⟨h0, ms, least, h1, h2, h3⟩ hg hr => ⟨Nat.le_trans h0 hg.size, ms, least, h1.own hg (fun r e => ⟨Nat.le_trans hsz (hr r e).1, (hr r e).2⟩), h2, h3⟩)
    (fun _ _ _ _ _ hs _ _ => hs)
    ⟨by simp, _, n, H3.out.1, Nat.le_refl _, fun _ => by rw [metF_start]; exact Lea.start o⟩
    (fun x => { tmps := #[.agg #[.slice na n nc, .slice da n dc, .slice ua n uc], .pointer (some ⟨w.heap.size, 0, none⟩), .int .i64 0, .pointer (some ⟨w.heap.size + 1, 0, none⟩), .pointer (some ⟨w.heap.size + 1 + 1 + 1 + 1 + 1, 0, none⟩), undef, .int .i64 (x.1.2 : Int), undef, .pointer (some ⟨w.heap.size, 0, none⟩), .slice na n nc, .int .i64 (n : Int), .pointer (some ⟨w.heap.size, 2, none⟩), .slice ua n uc, .func (.func 36) #[] #[.pointer (some ⟨w.heap.size + 1 + 1 + 1 + 1, 0, none⟩), .pointer (some ⟨w.heap.size + 1 + 1, 0, none⟩)], .pointer (some ⟨w.heap.size, 1, none⟩), .slice da n dc, .slice (some ⟨g, 0, none⟩) n cap, .func (.func 38) #[] #[.pointer (some ⟨w3.heap.size, 0, none⟩)], .int .i64 (x.1.1 : Int), .int .i64 (x.1.2 : Int), undef, undef, undef, undef, undef, undef, undef, undef, undef, undef, undef, undef, undef, undef, undef, undef, undef, undef, undef, undef, undef, undef, undef, undef, undef], defers := [] }) ?assign ?body ?done ?stop
  case assign =>
    intro l x W K hK
    simp only [encT]
    gi_wp2
    exact hK
  case body =>
    rintro l pre ⟨⟨xi, i⟩, hxi, hin⟩ W ⟨hS0, ms, least, hRM, hle, hlea⟩ hpre
    have HR : Hid (RM w #[.slice na n nc, .slice da n dc, .slice ua n uc] n ms ua uc least W ∧ (vals pre <+: o.reverse → Lea n (row Nn) (row Uu) o (o.length - pre.length) (metF ms) least)) := ⟨hRM, hlea⟩
    have hcg : W.cell? ⟨w.heap.size + 1 + 1 + 1 + 1 + 1, 0, none⟩ = some (.func (.func 36) #[] #[.pointer (some ⟨w.heap.size + 1 + 1 + 1 + 1, 0, none⟩), .pointer (some ⟨w.heap.size + 1 + 1, 0, none⟩)]) := by simp [World.cell?, hRM.gb]
    have GA : Hid (Calls Try.prog 36 #[.int .i64 (i : Int), .pointer (some ⟨w.heap.size + 1 + 1 + 1 + 1, 0, none⟩), .pointer (some ⟨w.heap.size + 1 + 1, 0, none⟩)] W fun e w' => Tc (fun k => k = w.heap.size + 1 + 1 + 1) W w' ∧ ∃ R ms' v, e = .returned v ∧ RowI W.heap.size v R w' ∧ GM (w.heap.size + 1 + 1 + 1 + 1) (w.heap.size + 1 + 1 + 1) (w.heap.size + 1 + 1) n ms' ua uc w' ∧ Ring n (row Nn) (row Uu) (metF ms) i R (metF ms')) :=
      gather_any B _ _ _ n i ms ua uc Nn Uu W hRM.gm HM.out.2.2.2 (HM.out.2.1.stay (fun k hk => hRM.old.block k (Nat.lt_of_lt_of_le hk HM.out.2.2.1)) (Nat.le_refl _)) (Nat.le_trans HM.out.2.2.1 hRM.old.size) (by have := HM.out.2.2.1; omega) hin hn
    clear hRM hlea
    gi_wp2_with fail
    refine ⟨trivial, (CallsIn.inRound l (callsIn_wide.2 GA.out)).mono ?_⟩
    rintro e W1 ⟨htc, R, ms', v, rfl, hrow, hgm, hring⟩
    obtain ⟨va, vc, hv, _, _⟩ := hrow.form
    subst hv
    have hRl : R.length ≤ n := hring.len
    have H4 : Hid (RM w #[.slice na n nc, .slice da n dc, .slice ua n uc] n ms' ua uc least W1 ∧ Ring n (row Nn) (row Uu) (metF ms) i R (metF ms') ∧ RowI W.heap.size (.slice va R.length vc) R W1 ∧ Tc (fun k => k = w.heap.size + 1 + 1 + 1) W W1) := ⟨HR.out.1.gather htc hgm, hring, hrow, htc⟩
    clear htc hrow hgm hring GA hcg
    have hlc : W1.cell? ⟨w.heap.size + 1, 0, none⟩ = some (.int .i64 (least : Int)) := by simp [World.cell?, H4.out.1.lb]
    have hlf : W1.frozen? ⟨w.heap.size + 1, 0, none⟩ = false := by simp [World.frozen?, H4.out.1.lb]
    have HMX : Hid (∀ z ∈ R, z ≤ 1048576) := fun z hz => by have := H4.out.2.1.lt z hz; omega
    have hfo : Try.prog.follows Departure.mixedOrders = true := by kernel_rfl
    have hbx1 : w.heap.size + 1 + 1 + 1 + 1 + 1 + 1 ≤ w3.heap.size := by
      have := H3.out.2.2.lt (k := g) rfl
      omega
    have hbx2 : w3.heap.size < w3.heap.size + 1 := by omega
    have hg3 : w.heap.size + 1 + 1 + 1 + 1 + 1 + 1 ≤ g := (H3.out.2.2.lt (k := g) rfl).1
    have hg4 : g < w3.heap.size + 1 := by omega
    by_cases hA : 1 < R.length
    · have hR1 : ¬ R.length = 1 := by omega
      gi_wp2_with fail
      all_goals try (rename_i hu hb hc; exact absurd hu (by simp [undef]))
      refine ⟨trivial, ?_⟩
      gi_wp2_with fail
      gi_region_with_o (first
          | (refine ⟨trivial, ?_⟩; refine (CallsIn.inRound l (callsIn_wide.2 (Min_any W.heap.size R _ _ (by exact H4.out.2.2.1) (by omega) (by omega) HMX.out))).mono ?_; rintro e W2 ⟨rfl, m, hm1, hm2, rfl⟩)
          | (gi_at_call 31; refine (CallsIn.inRound l (callsIn_wide.2 (Min_any W.heap.size R _ _ (by exact H4.out.2.2.1) (by omega) (by omega) HMX.out))).mono ?_; rintro e W2 ⟨rfl, m, hm1, hm2, rfl⟩))
      all_goals
        have HE : Hid ((if m < least then (m : Int) else (least : Int)) = ((min least m : Nat) : Int)) := by
          show (if m < least then (m : Int) else (least : Int)) = ((min least m : Nat) : Int)
          split <;> omega
        rw [HE.out]
        gi_wp2
        refine RI.next hS0 HR.out.1 (H4.out.1.set (min least m)) (H4.out.2.2.2.set _) (Below.refl _ _).drew hbx1 hbx2 hg3 hg4 (by omega) fun hp => ?_
        obtain ⟨p1, p2⟩ := pre_at hp (by omega)
        have hq := HR.out.2 p1
        rw [show o.length - pre.length = o.length - (pre.length + 1) + 1 by omega] at hq
        exact hq.yes HM.out.2.2.2.web H3.out.2.1 p2 H4.out.2.1 (Or.inl hA) hm1 hm2
    · by_cases hB1 : R.length = 1
      · obtain ⟨b, of, ia, ic, rfl, hbB, hc, hI⟩ := HM.out.1.at (j := i) (by have := HM.out.2.2.2.ln; omega)
        have hcr := (H4.out.1.old.cell (p := ⟨b, of + i, none⟩) (Nat.lt_of_lt_of_le hbB HM.out.2.2.1)).trans hc
        have hcw : W1.cell? ⟨w.heap.size, 1, none⟩ = some (.slice (some ⟨b, of, none⟩) n dc) := by simp [World.cell?, H4.out.1.web]
        have CO : Hid (Calls Try.prog 30 #[.slice ia (row Nn i).length ic, .int .i64 (i : Int)] W1 fun e w' => w' = W1 ∧ e = .returned (.bool (decide (i ∈ row Nn i)))) :=
          Contains_any B i (row Nn i) ia ic W1 (hI.stay (fun k hk => H4.out.1.old.block k (Nat.lt_of_lt_of_le hk HM.out.2.2.1)) (Nat.le_refl _))
        clear hc hI
        have H5 : Hid (RowI W.heap.size (.slice va 1 vc) R W1) := by
          have h := H4.out.2.2.1
          rw [hB1] at h
          exact h
        by_cases hin2 : i ∈ row Nn i
        · have hd : decide (i ∈ row Nn i) = true := decide_eq_true hin2
          gi_wp2_with fail
          refine ⟨trivial, (CallsIn.inRound l (callsIn_wide.2 CO.out)).mono ?_⟩
          rintro e W9 ⟨rfl, rfl⟩
          rw [hd]
          gi_wp2_with fail
          gi_region_with_o (first
          | (refine ⟨trivial, ?_⟩; refine (CallsIn.inRound l (callsIn_wide.2 (Min_any W.heap.size R _ _ (by exact H5.out) (by omega) (by omega) HMX.out))).mono ?_; rintro e W2 ⟨rfl, m, hm1, hm2, rfl⟩)
          | (gi_at_call 31; refine (CallsIn.inRound l (callsIn_wide.2 (Min_any W.heap.size R _ _ (by exact H5.out) (by omega) (by omega) HMX.out))).mono ?_; rintro e W2 ⟨rfl, m, hm1, hm2, rfl⟩))
          all_goals
            have HE : Hid ((if m < least then (m : Int) else (least : Int)) = ((min least m : Nat) : Int)) := by
              show (if m < least then (m : Int) else (least : Int)) = ((min least m : Nat) : Int)
              split <;> omega
            rw [HE.out]
            gi_wp2
            refine RI.next hS0 HR.out.1 (H4.out.1.set (min least m)) (H4.out.2.2.2.set _) (Below.refl _ _).drew hbx1 hbx2 hg3 hg4 (by omega) fun hp => ?_
            obtain ⟨p1, p2⟩ := pre_at hp (by omega)
            have hq := HR.out.2 p1
            rw [show o.length - pre.length = o.length - (pre.length + 1) + 1 by omega] at hq
            exact hq.yes HM.out.2.2.2.web H3.out.2.1 p2 H4.out.2.1 (Or.inr ⟨hB1, hin2⟩) hm1 hm2
        · have hd : decide (i ∈ row Nn i) = false := decide_eq_false hin2
          gi_wp2_with fail
          refine ⟨trivial, (CallsIn.inRound l (callsIn_wide.2 CO.out)).mono ?_⟩
          rintro e W9 ⟨rfl, rfl⟩
          rw [hd]
          gi_wp2_with fail
          refine RI.next hS0 HR.out.1 H4.out.1 H4.out.2.2.2.more (Below.refl _ _) hbx1 hbx2 hg3 hg4 hle fun hp => ?_
          obtain ⟨p1, p2⟩ := pre_at hp (by omega)
          have hq := HR.out.2 p1
          rw [show o.length - pre.length = o.length - (pre.length + 1) + 1 by omega] at hq
          exact hq.no HM.out.2.2.2.web H3.out.2.1 p2 H4.out.2.1 (fun h => by rcases h with h | h; exact hA h; exact hin2 h.2)
      · gi_wp2_with fail
        refine ⟨trivial, ?_⟩
        gi_wp2_with fail
        refine RI.next hS0 HR.out.1 H4.out.1 H4.out.2.2.2.more (Below.refl _ _) hbx1 hbx2 hg3 hg4 hle fun hp => ?_
        obtain ⟨p1, p2⟩ := pre_at hp (by omega)
        have hq := HR.out.2 p1
        rw [show o.length - pre.length = o.length - (pre.length + 1) + 1 by omega] at hq
        exact hq.no HM.out.2.2.2.web H3.out.2.1 p2 H4.out.2.1 (fun h => by rcases h with h | h; exact hA h; exact hB1 h.1)
  case done =>
    rintro D ys W hD hys ⟨hS0, ms, least, hRM, hle, hlea⟩ hK
    have hyl : ys.length = o.length := by
      have : (vals ys).length = o.reverse.length := by rw [hys]
      simpa [vals] using this
    have hfin := (hlea (by rw [hys]; exact List.prefix_refl _))
    rw [hyl, Nat.sub_self] at hfin
    have HF : Hid (least ≤ n ∧ (least < n → Rch (row Nn) least least) ∧ ∀ k, k < n → Rch (row Nn) k k → least ≤ k) := hfin.done H3.out.2.1
    have hlc : W.cell? ⟨w.heap.size + 1, 0, none⟩ = some (.int .i64 (least : Int)) := by simp [World.cell?, hRM.lb]
    clear hfin hlea hys hyl
    gi_wp2
    refine ⟨by simp, .inl ⟨_, _, rfl, run_takeDeferred hK, ?_⟩⟩
    refine ⟨_, results_tmp rfl _ _ _, ?_⟩
    exact ⟨hRM.old.trans (belowK_b (w := w) (Nat.le_refl _) W D _ _ (Nat.le_trans hsz hD) hK rfl rfl), least, rfl, HF.out⟩
  case stop =>
    rintro D c pre W _ _ h _
    exact h.elim
end Go.Proofs.Ytilcongilokppad
