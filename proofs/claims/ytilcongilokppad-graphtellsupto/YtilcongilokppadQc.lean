/- The document's own answer: Reaches, walked. -/
import Derived.Test.YtilcongilokppadQb
namespace Go.Proofs.Ytilcongilokppad
set_option linter.unusedVariables false
set_option linter.unusedSimpArgs false
open Go.RowKit Go.Maps Go.WideMaps

def lenW : Value → Nat
  | .slice _ n _ => n
  | _ => 0
theorem RowS.made (w : World) : RowS w.heap.size (.slice (some ⟨w.heap.size, 0, none⟩) 0 0) [] (w.alloc (.cells #[] 9)) :=
  ⟨rfl, Or.inr ⟨w.heap.size, 0, #[], rfl, Nat.le_refl _, heap_alloc_new w _, by simp, by simp [maxLen], by simp, by simp⟩⟩
theorem Win.pop {B g o cap : Nat} {x : ByteArray} {l : List ByteArray} {w : World} (h : Win B (.slice (some ⟨g, o, none⟩) (l.length + 1) cap) (x :: l) w) : Win B (.slice (some ⟨g, o + 1, none⟩) l.length (cap - 1)) l w := by
  obtain ⟨g', o', cap', cur, e, h1, h2, h3, h4, h5, h6⟩ := h
  simp at e h3
  obtain ⟨⟨rfl, rfl⟩, rfl⟩ := e
  refine ⟨g, o + 1, cap - 1, cur, rfl, h1, h2, by omega, by omega, by omega, fun i s hi => ?_⟩
  rw [show o + 1 + i = o + (i + 1) by omega]
  exact h6 (i + 1) s (by simpa using hi)
theorem Win.pop1 {B g o : Nat} {x : ByteArray} {w : World} (h : Win B (.slice (some ⟨g, o, none⟩) 1 1) [x] w) : Win B (.slice (some ⟨g, o, none⟩) 0 0) [] w := by
  obtain ⟨g', o', cap', cur, e, h1, h2, h3, h4, h5, h6⟩ := h
  simp at e
  obtain ⟨⟨rfl, rfl⟩, rfl⟩ := e
  exact ⟨g, o, 0, cur, rfl, h1, h2, by simp, by simp, by omega, by simp⟩
theorem Win.head {B g o n cap : Nat} {x : ByteArray} {l : List ByteArray} {w : World} (h : Win B (.slice (some ⟨g, o, none⟩) n cap) (x :: l) w) : w.cell? ⟨g, o, none⟩ = some (.string x) ∧ l.length + 1 ≤ cap ∧ cap ≤ maxLen := by
  obtain ⟨g', o', cap', cur, e, h1, h2, h3, h4, h5, h6⟩ := h
  simp at e h3
  obtain ⟨⟨rfl, rfl⟩, _, rfl⟩ := e
  have := h6 0 x rfl
  refine ⟨?_, h3, h4⟩
  simpa [World.cell?, h2] using this

/-- What Reaches has of its own: what was seen, what is to be done. -/
structure RMm (w : World) (sv tv : Value) (seen todo : List ByteArray) (wr : World) : Prop where
  old : Below w.heap.size w wr
  seen : RowS w.heap.size sv seen wr
  todo : Win w.heap.size tv todo wr
  apart : ∀ k, sv.ownBlock = some k → blockOf tv ≠ some k
theorem RMm.below {w wr w' : World} {sv tv : Value} {seen todo : List ByteArray} (h : RMm w sv tv seen todo wr) (hb : Below wr.heap.size wr w') : RMm w sv tv seen todo w' :=
  ⟨h.old.trans (hb.mono h.old.size), h.seen.below hb, h.todo.below hb, h.apart⟩

theorem wpList_pushS2 {ops : Array Oper} {rest : List Oper} {o : Oper} {a : Act} {Q : Exit → Act → World → Prop} {w0 : World} (y : ByteArray) (ab : Nat) (hgd : o.guard = none) (s x : Operand)
    (ho : o.op = .call { callee := .builtin .append, args := #[s, x], argTypes := #[23, 23] }) (B : Nat) (v : Value) (l : List ByteArray) (hs : a.eval s = v) (hrow : RowS B v l w0)
    (hx : a.eval x = .slice (some ⟨ab, 0, none⟩) 1 1) (hab : ab = w0.heap.size) (hB : B ≤ w0.heap.size) (hlen : l.length ≤ 1048576)
    (h : ∀ g cap w', RowS B (.slice (some ⟨g, 0, none⟩) (l.length + 1) cap) (l ++ [y]) w' → w0.grownBy w' v.ownBlock → (v.ownBlock = some g ∨ w0.heap.size < g) → wpList Try.prog ops Q rest (a.put o.dst (.slice (some ⟨g, 0, none⟩) (l.length + 1) cap)) w') :
    wpList Try.prog ops Q (o :: rest) a (w0.alloc (.cells #[.string y] 9)) := by
  refine wpList_push (P := Try.prog) 9 _ 16 (.string y) ab hgd s x 23 ho Try.underlying23 infoStr rfl B v l.length (l.map Value.string) hs hrow hx hab rfl hB (by unfold maxLen; omega) (by omega) fun g cap w' h1 h2 h3 => h g cap w' ?_ h2 h3
  unfold RowS
  simpa using h1
theorem RMm.push1 {w wr w' : World} {sv tv : Value} {seen todo : List ByteArray} (h : RMm w sv tv seen todo wr) {g cap n : Nat} {y : ByteArray} (hr : RowS w.heap.size (.slice (some ⟨g, 0, none⟩) n cap) (seen ++ [y]) w') (hg : wr.grownBy w' sv.ownBlock) (hat : sv.ownBlock = some g ∨ wr.heap.size < g) :
    RMm w (.slice (some ⟨g, 0, none⟩) n cap) tv (seen ++ [y]) todo w' := by
  refine ⟨Below.grown h.old hg h.old.size (fun k hk => (h.seen.lt hk).1), hr, h.todo.kept fun k hk => hg.block k (h.todo.lt hk).2 (fun e => h.apart k e.symm hk), fun k hk e => ?_⟩
  simp [Value.ownBlock] at hk
  subst hk
  rcases hat with q | q
  · exact h.apart _ q e
  · have := (h.todo.lt e).2
    omega
theorem RMm.push2 {w wr w' : World} {sv tv : Value} {seen todo : List ByteArray} (h : RMm w sv tv seen todo wr) {g o cap n : Nat} {y : ByteArray} (hr : Win w.heap.size (.slice (some ⟨g, o, none⟩) n cap) (todo ++ [y]) w') (hg : wr.grownBy w' (blockOf tv)) (hat : blockOf tv = some g ∨ wr.heap.size < g) :
    RMm w sv (.slice (some ⟨g, o, none⟩) n cap) seen (todo ++ [y]) w' := by
  refine ⟨Below.grown h.old hg h.old.size (fun k hk => (h.todo.lt hk).1), h.seen.kept fun k hk => hg.block k (h.seen.lt hk).2 (fun e => h.apart k hk e.symm), hr, fun k hk e => ?_⟩
  simp [blockOf] at e
  subst e
  rcases hat with q | q
  · exact h.apart _ hk q
  · have := (h.seen.lt hk).2
    omega

set_option maxRecDepth 100000 in
set_option maxHeartbeats 6400000 in
theorem Reaches_any (B : Nat) (l : List Nd) (fr to : ByteArray) (a : Option Addr) (c : Nat) (w : World) (h : Nds B w a l) (hB : B ≤ w.heap.size) (hc : cost l ≤ 1048576) :
    Calls Try.prog 12 #[.slice a l.length c, .string fr, .string to] w fun e w' => Below w.heap.size w w' ∧ ∃ r : Bool, e = .returned (.bool r) ∧ (r = true ↔ RchB l fr to) := by
  have hl := h.1
  have HH : Hid (Nds B w a l ∧ B ≤ w.heap.size ∧ cost l ≤ 1048576) := ⟨h, hB, hc⟩
  clear h hB hc
  go_enter Try.func12, Try.ntmps12
  go_wp2_with fail
  have HST : Hid (RMm w (.slice (some ⟨w.heap.size, 0, none⟩) 0 0) (.slice (some ⟨w.heap.size + 1, 0, none⟩) 1 1) [] [fr] ((w.alloc (.cells #[] 9)).alloc (.cells #[.string fr] 9))) := by
    have h1 : ((w.alloc (.cells #[] 9)).alloc (.cells #[.string fr] 9)).heap[w.heap.size + 1]? = some (.cells #[.string fr] 9 (0, 0)) := by
      simpa using heap_alloc_new (w.alloc (.cells #[] 9)) (.cells #[.string fr] 9)
    refine ⟨((Below.refl _ _).alloc (Nat.le_refl _) _).alloc (by simp) _, (RowS.made w).below ((Below.refl _ _).alloc (Nat.le_refl _) _), ⟨w.heap.size + 1, 0, 1, #[.string fr], rfl, by omega, h1, by simp, by simp [maxLen], by simp, fun i s hi => ?_⟩, fun k hk => ?_⟩
    · match i, hi with
      | 0, hi =>
        cases hi
        rfl
    · simp [Value.ownBlock] at hk
      simp [blockOf]
      omega
  go_loopw [7, 8] (fun sv tv wr => ∃ (seen todo pr : List ByteArray) (sa : Option Addr) (sc g o cap : Nat), sv = .slice sa seen.length sc ∧ tv = .slice (some ⟨g, o, none⟩) todo.length cap ∧ Hid (Seb l fr to seen todo pr) ∧ Hid (RMm w sv tv seen todo wr)) (fun sv tv _ => cost l + lenW tv - lenW sv)
  case atStart => exact ⟨[], [fr], [], _, _, _, _, _, rfl, rfl, Seb.start l fr to, HST.out⟩
  case round =>
    obtain ⟨seen, todo, pr, sa, sc, g, o, cap, rfl, rfl, HS, HR⟩ := hrel
    cases todo with
    | nil =>
      have HNO : Hid (¬ RchB l fr to) := HS.out.lost
      go_wp2_with fail
      go_ret
      exact ⟨HR.out.old, false, rfl, by simp; exact HNO.out⟩
    | cons x todo =>
      obtain ⟨y0, hcp, hcm⟩ := HR.out.todo.head
      have NE := Needs_any B l x a c wr (HH.out.1.stay (fun k hk => HR.out.old.block k (Nat.lt_of_lt_of_le hk HH.out.2.1)) (Nat.le_refl _)) (Nat.le_trans HH.out.2.1 HR.out.old.size)
      have hlc : (x :: todo).length = todo.length + 1 := rfl
      rw [hlc] at HR ⊢
      clear hlc
      have htl : todo.length + 1 ≤ 9223372036854775807 := by unfold maxLen at hcm; omega
      go_wp2_with fail
      refine NE.mono ?_
      clear NE
      rintro e w2 ⟨hb2, na, nc, ok, rfl, hst, _⟩
      have HR2 : Hid (RMm w (.slice sa seen.length sc) (.slice (some ⟨g, o, none⟩) (todo.length + 1) cap) seen (x :: todo) w2) := HR.out.below hb2
      have HSW : Hid (Strs B w na (nee l x)) := hst.stay (fun k hk => (HR.out.old.block k (Nat.lt_of_lt_of_le hk HH.out.2.1)).symm) (Nat.le_refl _)
      have hnl := hst.1
      clear hb2 hst y0
      by_cases hc1 : cap = 1
      · subst hc1
        obtain rfl : todo = [] := List.length_eq_zero_iff.1 (by omega)
        have HI0 : Hid (RMm w (.slice sa seen.length sc) (.slice (some ⟨g, o, none⟩) 0 0) seen [] w2) := ⟨HR2.out.old, HR2.out.seen, HR2.out.todo.pop1, HR2.out.apart⟩
        go_wp2_with fail
        clear HR HR2
        have HSE : Hid (Sea l fr to seen [] pr x 0) := HS.out.pop
        go_loopw [7, 8, 31] (fun sv tv iv wq => ∃ (k : Nat) (seen' todo' : List ByteArray) (sa' : Option Addr) (sc' g' o' cap' : Nat), k ≤ (nee l x).length ∧ iv = .int .i64 k ∧ sv = .slice sa' seen'.length sc' ∧ tv = .slice (some ⟨g', o', none⟩) todo'.length cap' ∧ Hid (Sea l fr to seen' todo' pr x k) ∧ Hid (RMm w sv tv seen' todo' wq)) (fun _ _ iv _ => (nee l x).length - (intOf iv).toNat)
        case atStart => exact ⟨0, seen, [], _, _, _, _, _, Nat.zero_le _, rfl, rfl, rfl, HSE.out, HI0.out⟩
        case round =>
          obtain ⟨k, seen', todo', sa', sc', g', o', cap', hk, rfl, rfl, rfl, HA, HQ⟩ := hrel
          have hsl : seen'.length ≤ 1048576 := by have := HA.out.len; rw [costB_eq] at this; have := HH.out.2.2; omega
          by_cases hkl : k < (nee l x).length
          · obtain ⟨b2, o2, n, rfl, hb2, hs, hcs, hsz⟩ := HSW.out.at hkl
            have c1 := (HQ.out.old.cell (p := ⟨b2, o2 + k, none⟩) (Nat.lt_of_lt_of_le hb2 HH.out.2.1)).trans hcs
            have HX : Hid ((nee l x)[k]? = some n) := hs
            clear hs hcs
            by_cases hnt : n = to
            · subst hnt
              go_wp2_with fail
              go_ret
              exact ⟨HQ.out.old, true, rfl, by simp; exact HA.out.found HX.out⟩
            · have hq := neq_str hnt
              obtain ⟨sa2, sc2, e2, hst2⟩ := HQ.out.seen.lie hsl (fun s hs => by
                obtain ⟨nd, h1, h2⟩ := HA.out.from_ s hs
                have := (HH.out.1.2.1 nd h1).2.2 s h2
                unfold maxLen
                omega)
              obtain ⟨rfl, rfl⟩ : sa' = sa2 ∧ sc' = sc2 := by simpa using e2
              have IN := in_any seen' n sa' sc' wr hst2
              clear e2 hst2
              go_wp2_with fail
              refine IN.mono ?_
              clear IN
              rintro e w4 ⟨rfl, hb4⟩
              have HQ4 : Hid (RMm w (.slice sa' seen'.length sc') (.slice (some ⟨g', o', none⟩) todo'.length cap') seen' todo' w4) := HQ.out.below hb4
              clear hb4 c1
              cases hin : decide (n ∈ seen') with
              | true =>
                have HA2 : Hid (Sea l fr to seen' todo' pr x (k + 1)) := HA.out.old HX.out hnt (by simpa using hin)
                go_wp2_with fail
                exact ⟨⟨k + 1, seen', todo', _, _, _, _, _, by omega, by go_num, rfl, rfl, HA2.out, HQ4.out⟩, by simp [intOf]; omega⟩
              | false =>
                have HA2 : Hid (Sea l fr to (seen' ++ [n]) (todo' ++ [n]) pr x (k + 1)) := HA.out.new HX.out hnt (by simpa using hin)
                have htl2 : todo'.length ≤ 2097152 := by
                  have := congrArg List.length HA.out.all
                  simp at this
                  omega
                go_wp2_with (at_builtin; refine wpList_pushS2 n _ rfl _ _ rfl w.heap.size (.slice sa' seen'.length sc') seen' rfl HQ4.out.seen rfl (by simp) HQ4.out.old.size hsl ?_)
                intro g5 cap5 w5 hr5 hg5 hat5
                have HQ5 : Hid (RMm w (.slice (some ⟨g5, 0, none⟩) (seen'.length + 1) cap5) (.slice (some ⟨g', o', none⟩) todo'.length cap') (seen' ++ [n]) todo' w5) := HQ4.out.push1 hr5 hg5 hat5
                clear hr5 hg5 hat5
                go_wp2_with (at_builtin; refine wpList_pushW n _ rfl _ _ rfl w.heap.size (.slice (some ⟨g', o', none⟩) todo'.length cap') todo' rfl HQ5.out.todo rfl (by simp) HQ5.out.old.size htl2 ?_)
                intro g6 o6 cap6 w6 hr6 hg6 hat6
                have HQ6 : Hid (RMm w (.slice (some ⟨g5, 0, none⟩) (seen'.length + 1) cap5) (.slice (some ⟨g6, o6, none⟩) (todo'.length + 1) cap6) (seen' ++ [n]) (todo' ++ [n]) w6) := HQ5.out.push2 hr6 hg6 hat6
                clear hr6 hg6 hat6
                go_wp2_with fail
                exact ⟨⟨k + 1, seen' ++ [n], todo' ++ [n], some ⟨g5, 0, none⟩, cap5, g6, o6, cap6, by omega, by go_num, by simp, by simp, HA2.out, HQ6.out⟩, by simp [intOf]; omega⟩
          · have HB2 : Hid (Seb l fr to seen' todo' (pr ++ [x])) := HA.out.back (by omega)
            have m1 : seen.length ≤ cost l := by have := HS.out.len; rwa [costB_eq] at this
            have m2 : seen'.length ≤ cost l := by have := HA.out.len; rwa [costB_eq] at this
            have m3 := congrArg List.length HA.out.all
            have m4 := congrArg List.length HS.out.all
            simp at m3 m4
            go_wp2_with fail
            exact ⟨⟨seen', todo', pr ++ [x], _, _, _, _, _, rfl, rfl, HB2.out, HQ.out⟩, by simp [lenW]; omega⟩
      · have hc2 : 1 ≤ cap := by omega
        have HI0 : Hid (RMm w (.slice sa seen.length sc) (.slice (some ⟨g, o + 1, none⟩) todo.length (cap - 1)) seen todo w2) := ⟨HR2.out.old, HR2.out.seen, HR2.out.todo.pop, HR2.out.apart⟩
        go_wp2_with fail
        clear HR HR2
        have HSE : Hid (Sea l fr to seen todo pr x 0) := HS.out.pop
        go_loopw [7, 8, 31] (fun sv tv iv wq => ∃ (k : Nat) (seen' todo' : List ByteArray) (sa' : Option Addr) (sc' g' o' cap' : Nat), k ≤ (nee l x).length ∧ iv = .int .i64 k ∧ sv = .slice sa' seen'.length sc' ∧ tv = .slice (some ⟨g', o', none⟩) todo'.length cap' ∧ Hid (Sea l fr to seen' todo' pr x k) ∧ Hid (RMm w sv tv seen' todo' wq)) (fun _ _ iv _ => (nee l x).length - (intOf iv).toNat)
        case atStart => exact ⟨0, seen, todo, _, _, _, _, _, Nat.zero_le _, rfl, rfl, rfl, HSE.out, HI0.out⟩
        case round =>
          obtain ⟨k, seen', todo', sa', sc', g', o', cap', hk, rfl, rfl, rfl, HA, HQ⟩ := hrel
          have hsl : seen'.length ≤ 1048576 := by have := HA.out.len; rw [costB_eq] at this; have := HH.out.2.2; omega
          by_cases hkl : k < (nee l x).length
          · obtain ⟨b2, o2, n, rfl, hb2, hs, hcs, hsz⟩ := HSW.out.at hkl
            have c1 := (HQ.out.old.cell (p := ⟨b2, o2 + k, none⟩) (Nat.lt_of_lt_of_le hb2 HH.out.2.1)).trans hcs
            have HX : Hid ((nee l x)[k]? = some n) := hs
            clear hs hcs
            by_cases hnt : n = to
            · subst hnt
              go_wp2_with fail
              go_ret
              exact ⟨HQ.out.old, true, rfl, by simp; exact HA.out.found HX.out⟩
            · have hq := neq_str hnt
              obtain ⟨sa2, sc2, e2, hst2⟩ := HQ.out.seen.lie hsl (fun s hs => by
                obtain ⟨nd, h1, h2⟩ := HA.out.from_ s hs
                have := (HH.out.1.2.1 nd h1).2.2 s h2
                unfold maxLen
                omega)
              obtain ⟨rfl, rfl⟩ : sa' = sa2 ∧ sc' = sc2 := by simpa using e2
              have IN := in_any seen' n sa' sc' wr hst2
              clear e2 hst2
              go_wp2_with fail
              refine IN.mono ?_
              clear IN
              rintro e w4 ⟨rfl, hb4⟩
              have HQ4 : Hid (RMm w (.slice sa' seen'.length sc') (.slice (some ⟨g', o', none⟩) todo'.length cap') seen' todo' w4) := HQ.out.below hb4
              clear hb4 c1
              cases hin : decide (n ∈ seen') with
              | true =>
                have HA2 : Hid (Sea l fr to seen' todo' pr x (k + 1)) := HA.out.old HX.out hnt (by simpa using hin)
                go_wp2_with fail
                exact ⟨⟨k + 1, seen', todo', _, _, _, _, _, by omega, by go_num, rfl, rfl, HA2.out, HQ4.out⟩, by simp [intOf]; omega⟩
              | false =>
                have HA2 : Hid (Sea l fr to (seen' ++ [n]) (todo' ++ [n]) pr x (k + 1)) := HA.out.new HX.out hnt (by simpa using hin)
                have htl2 : todo'.length ≤ 2097152 := by
                  have := congrArg List.length HA.out.all
                  simp at this
                  omega
                go_wp2_with (at_builtin; refine wpList_pushS2 n _ rfl _ _ rfl w.heap.size (.slice sa' seen'.length sc') seen' rfl HQ4.out.seen rfl (by simp) HQ4.out.old.size hsl ?_)
                intro g5 cap5 w5 hr5 hg5 hat5
                have HQ5 : Hid (RMm w (.slice (some ⟨g5, 0, none⟩) (seen'.length + 1) cap5) (.slice (some ⟨g', o', none⟩) todo'.length cap') (seen' ++ [n]) todo' w5) := HQ4.out.push1 hr5 hg5 hat5
                clear hr5 hg5 hat5
                go_wp2_with (at_builtin; refine wpList_pushW n _ rfl _ _ rfl w.heap.size (.slice (some ⟨g', o', none⟩) todo'.length cap') todo' rfl HQ5.out.todo rfl (by simp) HQ5.out.old.size htl2 ?_)
                intro g6 o6 cap6 w6 hr6 hg6 hat6
                have HQ6 : Hid (RMm w (.slice (some ⟨g5, 0, none⟩) (seen'.length + 1) cap5) (.slice (some ⟨g6, o6, none⟩) (todo'.length + 1) cap6) (seen' ++ [n]) (todo' ++ [n]) w6) := HQ5.out.push2 hr6 hg6 hat6
                clear hr6 hg6 hat6
                go_wp2_with fail
                exact ⟨⟨k + 1, seen' ++ [n], todo' ++ [n], some ⟨g5, 0, none⟩, cap5, g6, o6, cap6, by omega, by go_num, by simp, by simp, HA2.out, HQ6.out⟩, by simp [intOf]; omega⟩
          · have HB2 : Hid (Seb l fr to seen' todo' (pr ++ [x])) := HA.out.back (by omega)
            have m1 : seen.length ≤ cost l := by have := HS.out.len; rwa [costB_eq] at this
            have m2 : seen'.length ≤ cost l := by have := HA.out.len; rwa [costB_eq] at this
            have m3 := congrArg List.length HA.out.all
            have m4 := congrArg List.length HS.out.all
            simp at m3 m4
            go_wp2_with fail
            exact ⟨⟨seen', todo', pr ++ [x], _, _, _, _, _, rfl, rfl, HB2.out, HQ.out⟩, by simp [lenW]; omega⟩
end Go.Proofs.Ytilcongilokppad
