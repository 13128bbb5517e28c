/- The document's own Bare. -/
import Derived.Test.YtdnbingddbakaaaDoorK12
import Derived.Test.YtdnbingddbakaaaDoorK34
import Derived.Deep.CutBlock
namespace Go.Proofs.YtdnbingddbakaaaDoor
set_option linter.unusedVariables false
set_option linter.unusedSimpArgs false
open Go.RowKit

mutual
/-- No symbol has a stamp. -/
def stQ : Dat → Prop
  | ⟨k, n, nm, st, lb, ks⟩ => (k = 3 → st = 0 ∧ lb = 0) ∧ (k = 4 → stQL ks)
def stQL : List Dat → Prop
  | [] => True
  | d :: r => stQ d ∧ stQL r
end
theorem stQL_mem : ∀ (l : List Dat), stQL l → ∀ d ∈ l, stQ d
  | [], _, _, h => by cases h
  | x :: r, h, d, hd => by
    rw [stQL] at h
    rcases List.mem_cons.1 hd with rfl | hd
    · exact h.1
    · exact stQL_mem r h.2 d hd
theorem chkL_st (g : Dat → Nat → Int × Nat) (hg : ∀ d n, (g d n).1 = 0 → stQ d) : ∀ (l : List Dat) (n : Nat), (chkL g l n).1 = 0 → stQL l
  | [], n, _ => by rw [stQL]; trivial
  | d :: r, n, h => by
    unfold chkL at h
    by_cases e : (g d n).1 = 0
    · rw [if_pos e] at h
      rw [stQL]
      exact ⟨hg d n e, chkL_st g hg r _ h⟩
    · rw [if_neg e] at h
      exact absurd h e
theorem chk_st : ∀ (f : Nat) (d : Dat) (n : Nat), (chk f d n).1 = 0 → stQ d
  | 0, d, n, h => by simp [chk] at h
  | f + 1, ⟨k, m, nm, st, lb, ks⟩, n, h => by
    unfold chk at h
    by_cases a : 2000 < n + 1
    · rw [if_pos a] at h; simp at h
    · rw [if_neg a] at h
      by_cases b : alone ⟨k, m, nm, st, lb, ks⟩ = 0
      · rw [if_pos b] at h
        rw [stQ]
        refine ⟨fun h3 => ?_, fun h4 => ?_⟩
        · subst h3
          unfold alone at b
          simp only [Int.reduceEq, if_false, if_true] at b
          split at b
          · split at b
            · assumption
            · simp at b
          · simp at b
        · subst h4
          rw [if_pos rfl] at h
          exact chkL_st _ (chk_st f) _ _ h
      · rw [if_neg b] at h
        exact absurd h b
theorem wrong_st {q : Dat} (h : (wrong [q]).1 = 0) : stQ q := by
  unfold wrong wrongFrom at h
  by_cases e : (chk 40 q 0).1 = 0
  · exact chk_st 40 q 0 e
  · rw [if_neg e] at h
    exact absurd h e
theorem ret33 {ts : Array Value} {W : World} {R : Nat} {d : Dat} {v : Value} (h : Nod R d v W) (h2 : ts[2]? = some (.pointer (some ⟨R, 0, none⟩))) :
    (results Tryd.f19 ts).run Tryd.prog W = .ok (.agg #[.int .i64 d.kind, .int .i64 d.n, .string d.name, .int .i64 d.stamp, .int .i64 d.lib, v]) W := by
  obtain ⟨q, q0, q1, q2, q3, q4, q5, qz⟩ := h
  simp [results, Tryd.results19, go_sem, h2, q0, q1, q2, q3, q4, q5]
/-- What a round has. -/
structure BR (w : World) (d0 : Dat) (sl : Value) (o : Dat) (v : Value) (es : List (Dat × Option Addr × Nat)) (W : World) : Prop where
  old : Below w.heap.size w W
  inn : Nod w.heap.size d0 sl W
  res : Nod (w.heap.size + 1) zeroD (.slice none 0 0) W
  out : Nod (w.heap.size + 1 + 1) o v W
  row : RowC (w.heap.size + 3) v es W
theorem BR.below {w W W' : World} {d0 o : Dat} {sl v : Value} {es : List (Dat × Option Addr × Nat)} (h : BR w d0 sl o v es W) (hb : Below W.heap.size W W') : BR w d0 sl o v es W' :=
  ⟨h.old.trans (hb.mono h.old.size), h.inn.after hb, h.res.after hb, h.out.after hb, h.row.below hb⟩
theorem BR.start (w : World) (k n : Int) (nm : ByteArray) (st lb : Int) (sl : Value) : BR w ⟨k, n, nm, st, lb, []⟩ sl ⟨k, 0, ⟨#[]⟩, 0, 0, []⟩ (.slice none 0 0) [] (bareW w k n nm st lb sl) :=
  ⟨bareW_old .., bareW_in .., bareW_res .., bareW_out .., RowC.nil _ _⟩
theorem BR.start1 (w : World) (k n : Int) (nm : ByteArray) (st lb : Int) (sl : Value) : BR w ⟨k, n, nm, st, lb, []⟩ sl ⟨k, n, ⟨#[]⟩, 0, 0, []⟩ (.slice none 0 0) [] (((w.alloc (.cells #[.int .i64 k, .int .i64 n, .string nm, .int .i64 st, .int .i64 lb, sl] 49)).alloc (.cells #[.int .i64 0, .int .i64 0, .string ⟨#[]⟩, .int .i64 0, .int .i64 0, .slice none 0 0] 49)).alloc (.cells #[.int .i64 k, .int .i64 n, .string ⟨#[]⟩, .int .i64 0, .int .i64 0, .slice none 0 0] 49)) := by
  have h := Nod.made ((w.alloc (.cells #[.int .i64 k, .int .i64 n, .string nm, .int .i64 st, .int .i64 lb, sl] 49)).alloc (.cells #[.int .i64 0, .int .i64 0, .string ⟨#[]⟩, .int .i64 0, .int .i64 0, .slice none 0 0] 49)) ⟨k, n, ⟨#[]⟩, 0, 0, []⟩ (.slice none 0 0)
  have hs : ((w.alloc (.cells #[.int .i64 k, .int .i64 n, .string nm, .int .i64 st, .int .i64 lb, sl] 49)).alloc (.cells #[.int .i64 0, .int .i64 0, .string ⟨#[]⟩, .int .i64 0, .int .i64 0, .slice none 0 0] 49)).heap.size = w.heap.size + 1 + 1 := by simp
  rw [hs] at h
  have h2 := Nod.made (w.alloc (.cells #[.int .i64 k, .int .i64 n, .string nm, .int .i64 st, .int .i64 lb, sl] 49)) zeroD (.slice none 0 0)
  have hs2 : (w.alloc (.cells #[.int .i64 k, .int .i64 n, .string nm, .int .i64 st, .int .i64 lb, sl] 49)).heap.size = w.heap.size + 1 := by simp
  rw [hs2] at h2
  exact ⟨(((Below.refl _ _).alloc (Nat.le_refl _) _).alloc (by simp) _).alloc (by simp; omega) _, ((Nod.made w ⟨k, n, nm, st, lb, []⟩ sl).alloc _).alloc _, h2.alloc _, h, RowC.nil _ _⟩
theorem Nod.set3 {N : Nat} {d : Dat} {v : Value} {w : World} (h : Nod N d v w) (x : Int) : Nod N { d with stamp := x } v (w.setCell ⟨N, 3, none⟩ (.int .i64 x)) := by
  obtain ⟨q, q0, q1, q2, q3, q4, q5, qz⟩ := h
  exact ⟨by simpa [World.setCell] using q, by go_simp, by go_simp, by go_simp, by go_simp, by go_simp, by go_simp, fun j => by rw [World.frozen?_setCell]; exact qz j⟩
theorem Nod.set4 {N : Nat} {d : Dat} {v : Value} {w : World} (h : Nod N d v w) (x : Int) : Nod N { d with lib := x } v (w.setCell ⟨N, 4, none⟩ (.int .i64 x)) := by
  obtain ⟨q, q0, q1, q2, q3, q4, q5, qz⟩ := h
  exact ⟨by simpa [World.setCell] using q, by go_simp, by go_simp, by go_simp, by go_simp, by go_simp, by go_simp, fun j => by rw [World.frozen?_setCell]; exact qz j⟩

set_option maxRecDepth 100000 in
set_option maxHeartbeats 1600000 in
theorem RBare_list (f : Nat) (d : Dat) (a : Option Addr) (cap : Nat) (w : World) (h4 : d.kind = 4) (hl : Dn w (f + 1) a d.kids) (hf : smQ d) (hst : stQ d)
    (ih : ∀ (d' : Dat), d' ∈ d.kids → ∀ (a : Option Addr) (cap : Nat) (w : World), Dn w f a d'.kids → d'.kids.length ≤ cap → smQ d' → stQ d' → Calls Tryd.prog 19 #[dv d' a cap] w (ToldB (bareQ d') w)) :
    Calls Tryd.prog 19 #[dv d a cap] w (ToldB (bareQ d) w) := by
  obtain ⟨k, n, nm, st, lb, ks⟩ := d
  rw [smQ] at hf
  rw [stQ] at hst
  simp only at hl ih h4
  have HL := hidd hl
  have IH := hidd ih
  have FL := hidd hf
  have FS := hidd hst
  clear hl ih hf hst
  subst h4
  have S0 := hidd (BR.start w 4 n nm st lb (.slice a ks.length cap))
  have hsz := bareW_size w 4 n nm st lb (.slice a ks.length cap)
  unfold dv
  have hlen : ks.length ≤ 2000 := (FL.out.2 rfl).1
  rw [show bareQ ⟨4, n, nm, st, lb, ks⟩ = ⟨4, 0, ⟨#[]⟩, 0, 0, ks.map bareQ⟩ by rw [bareQ, bareQL_map]; simp]
  have r5 := S0.out.inn.q5
  unfold bareW at r5
  obtain ⟨D0, hD0⟩ : ∃ D : Dat, D = ⟨4, n, nm, st, lb, []⟩ := ⟨_, rfl⟩
  obtain ⟨SL, hSL⟩ : ∃ s : Value, s = .slice a ks.length cap := ⟨_, rfl⟩
  have HD0 : Hid (D0.kind = 4) := by show _ = _; rw [hD0]
  go_enter Tryd.func19, Tryd.ntmps19
  go_wp2_with fail
  clear r5
  rw [← hD0] at S0
  have S1 : Hid (BR w D0 SL ⟨4, 0, ⟨#[]⟩, 0, 0, []⟩ (.slice none 0 0) [] (bareW w 4 n nm st lb (.slice a ks.length cap))) := by rw [hSL]; exact S0.out
  clear S0 hD0 hSL
  go_loopw [31] (fun i wr => ∃ (j : Nat) (v : Value) (es : List (Dat × Option Addr × Nat)), j ≤ ks.length ∧ i = .int .i64 j ∧ Hid (es.map (·.1) = (ks.take j).map bareQ) ∧ Hid (BR w D0 SL ⟨4, 0, ⟨#[]⟩, 0, 0, []⟩ v es wr)) (fun i _ => ks.length - (intOf i).toNat)
  case atStart => exact ⟨0, _, [], Nat.zero_le _, rfl, (show _ = _ from rfl), S1.out⟩
  case round =>
    clear S1
    obtain ⟨j, v, es, hj, rfl, HSM, HR⟩ := hrel
    have HES : Hid (es.length = j) := by
      show _ = _
      have := congrArg List.length HSM.out
      simp at this
      omega
    have lo := HR.out.out.lt
    by_cases hlt : j < ks.length
    · obtain ⟨kid, hkid⟩ : ∃ kid, ks[j]? = some kid := ⟨ks[j], List.getElem?_eq_getElem hlt⟩
      have hne : ks ≠ [] := by intro e; rw [e] at hlt; simp at hlt
      obtain ⟨g', b, o, hg, ha, hbB, hall⟩ := HL.out.at hne
      subst ha
      obtain ⟨a', cap', k0, k1, k2, k3, k4, k5, hkn, hkc, hkk⟩ := hall j kid hkid
      have hg' : g' = f := by omega
      subst hg'
      have hc : ∀ q, wr.cell? ⟨b, q, none⟩ = w.cell? ⟨b, q, none⟩ := fun q => HR.out.old.cell (p := ⟨b, q, none⟩) hbB
      have j0 := (hc _).trans k0
      have j1 := (hc _).trans k1
      have j2 := (hc _).trans k2
      have j3 := (hc _).trans k3
      have j4 := (hc _).trans k4
      have j5 := (hc _).trans k5
      have i0 := (HR.out.below ((Below.refl _ _).alloc (Nat.le_refl _) (.cells #[.int .i64 kid.kind, .int .i64 kid.n, .string kid.name, .int .i64 kid.stamp, .int .i64 kid.lib, .slice a' kid.kids.length cap'] 49))).inn.q0
      rw [HD0.out] at i0
      have CA : Hid (∀ W, Below w.heap.size w W → Calls Tryd.prog 19 #[dv kid a' cap'] W (ToldB (bareQ kid) W)) := fun W hb => IH.out kid (List.mem_of_getElem? hkid) a' cap' W (Dn.lift hkk hb) hkc (smQL_mem _ (FL.out.2 (by trivial)).2 _ (List.mem_of_getElem? hkid)) (stQL_mem _ (FS.out.2 (by trivial)) _ (List.mem_of_getElem? hkid))
      have TK : Hid ((ks.take (j + 1)).map bareQ = (ks.take j).map bareQ ++ [bareQ kid]) := by
        show _ = _
        rw [List.take_add_one, hkid]
        simp
      have HN : Hid ((bareQ kid).name.size ≤ maxLen) := bareQ_name kid hkn
      unfold dv at CA
      clear k0 k1 k2 k3 k4 k5 hall hkk hkid hc hg hkn hkc IH FL FS HL
      go_upto_region 12 with fail
      clear j0 j1 j2 j3 j4 j5 i0
      have BS_0 : Hid (BR w D0 SL ⟨4, 0, ⟨#[]⟩, 0, 0, []⟩ v es (wr.alloc (.cells #[.int .i64 kid.kind, .int .i64 kid.n, .string kid.name, .int .i64 kid.stamp, .int .i64 kid.lib, .slice a' kid.kids.length cap'] 49)).drew) := HR.out.below (Below.drew ((Below.refl _ _).alloc (Nat.le_refl _) _))
      generalize bareQ kid = rk at TK HN CA
      refine wp_region_held_drew (S := fun u => u.heap[wr.heap.size]? = some (.cells #[.int .i64 kid.kind, .int .i64 kid.n, .string kid.name, .int .i64 kid.stamp, .int .i64 kid.lib, .slice a' kid.kids.length cap'] 49 (0, 0))) (by kernel_rfl) (World.alloc_heap_new wr (.cells #[.int .i64 kid.kind, .int .i64 kid.n, .string kid.name, .int .i64 kid.stamp, .int .i64 kid.lib, .slice a' kid.kids.length cap'] 49)) (fun hS => ?_)
      refine wpAnyH_take (i := 0) (oi := { dst := some 38, op := Op.fieldAddr 49 (Operand.tmp 3) 5, type := 0, pos := _, after := _, guard := none }) (v := .pointer (some ⟨w.heap.size + 1 + 1, 5, none⟩)) rfl (by kernel_rfl) (by kernel_rfl) (by kernel_rfl) (fun _ _ _ h => h) (Or.inl ⟨by rfl, fun u hu => by go_simp⟩) hS ?_
      simp only [Act.put, List.setIfInBounds_toArray, List.set_cons_zero, List.set_cons_succ]
      refine wpAnyH_take (i := 2) (oi := { dst := some 40, op := Op.load 49 (Operand.tmp 5), type := 49, pos := _, after := _, guard := none }) (v := .agg #[.int .i64 kid.kind, .int .i64 kid.n, .string kid.name, .int .i64 kid.stamp, .int .i64 kid.lib, .slice a' kid.kids.length cap']) rfl (by kernel_rfl) (by kernel_rfl) (by kernel_rfl) (fun _ _ _ h => h) (Or.inl ⟨by rfl, fun u hu => by (have z : ∀ q, u.cell? ⟨wr.heap.size, q, none⟩ = #[.int .i64 kid.kind, .int .i64 kid.n, .string kid.name, .int .i64 kid.stamp, .int .i64 kid.lib, .slice a' kid.kids.length cap'][q]? := (fun q => by simp [World.cell?, show u.heap[wr.heap.size]? = _ from hu]); have z0 := z 0; have z1 := z 1; have z2 := z 2; have z3 := z 3; have z4 := z 4; have z5 := z 5; simp at z0 z1 z2 z3 z4 z5; go_simp)⟩) hS ?_
      simp only [Act.put, List.setIfInBounds_toArray, List.set_cons_zero, List.set_cons_succ]
      refine wpAnyH_ready (rs := [1, 3]) (by kernel_rfl) (by simp) (AllReadyH.cons (o := { dst := some 39, op := Op.load 47 (Operand.tmp 38), type := 47, pos := _, after := _, guard := none }) rfl (fun K hK => ?_) (AllReadyH.cons (o := { dst := some 41, op := Op.call { callee := Callee.value (Operand.func 19), args := #[Operand.tmp 40], argTypes := #[49] }, type := 49, pos := _, after := _, guard := none }) rfl (fun K hK => ?_) AllReadyH.nil))
      · have zo := BS_0.out.out.q5
        go_simp
        clear zo
        refine hK.out _ _ hS (fun hS => ?_)
        clear hK K
        refine wpAnyH_ready (rs := [3]) (by kernel_rfl) (by simp) (AllReadyH.cons (o := { dst := some 41, op := Op.call { callee := Callee.value (Operand.func 19), args := #[Operand.tmp 40], argTypes := #[49] }, type := 49, pos := _, after := _, guard := none }) rfl (fun K hK => ?_) AllReadyH.nil)
        go_simp
        refine (CA.out (wr.alloc (.cells #[.int .i64 kid.kind, .int .i64 kid.n, .string kid.name, .int .i64 kid.stamp, .int .i64 kid.lib, .slice a' kid.kids.length cap'] 49)).drew BS_0.out.old).mono ?_
        rintro e w2 ⟨hb1, a2, cap2, f2, rfl, hcap2, hdc2⟩
        have BS_1 : Hid (BR w D0 SL ⟨4, 0, ⟨#[]⟩, 0, 0, []⟩ v es (w2)) := BS_0.out.below hb1
        have hs2 : wr.heap.size + 1 ≤ w2.heap.size := by have := hb1.size; simpa [World.drew] using this
        have HD2 : Hid (rk.kids.length ≤ cap2 ∧ Dc (New wr w2) w2 f2 a2 rk.kids) := ⟨hcap2, Dc.stay (fun _ _ => rfl) (fun k hk => ⟨by have := hk.1; simp [World.drew] at this; omega, hk.2⟩) _ _ _ hdc2⟩
        have hS1 : w2.heap[wr.heap.size]? = some (.cells #[.int .i64 kid.kind, .int .i64 kid.n, .string kid.name, .int .i64 kid.stamp, .int .i64 kid.lib, .slice a' kid.kids.length cap'] 49 (0, 0)) := (hb1.block _ (Array.getElem?_eq_some_iff.1 hS).1).trans hS
        clear hb1 hcap2 hdc2
        unfold dv
        simp only
        show K _ w2
        refine hK.out _ _ hS1 (fun hS => ?_)
        clear hK K
        refine wpAnyH_ready (rs := [4]) (by kernel_rfl) (by simp) (AllReadyH.cons (o := { dst := some 42, op := Op.buildSlice 47 1 #[(0, Operand.tmp 41)], type := 47, pos := _, after := _, guard := none }) rfl (fun K hK => ?_) AllReadyH.nil)
        go_simp
        have hb2 : Below w2.heap.size w2 (w2.alloc (.cells #[.int .i64 rk.kind, .int .i64 rk.n, .string rk.name, .int .i64 rk.stamp, .int .i64 rk.lib, .slice a2 rk.kids.length cap2] 49)) := (Below.refl _ _).alloc (Nat.le_refl _) _
        have hS2 : (w2.alloc (.cells #[.int .i64 rk.kind, .int .i64 rk.n, .string rk.name, .int .i64 rk.stamp, .int .i64 rk.lib, .slice a2 rk.kids.length cap2] 49)).heap[wr.heap.size]? = some (.cells #[.int .i64 kid.kind, .int .i64 kid.n, .string kid.name, .int .i64 kid.stamp, .int .i64 kid.lib, .slice a' kid.kids.length cap'] 49 (0, 0)) := (hb2.block _ (Array.getElem?_eq_some_iff.1 hS).1).trans hS
        change K _ (w2.alloc (.cells #[.int .i64 rk.kind, .int .i64 rk.n, .string rk.name, .int .i64 rk.stamp, .int .i64 rk.lib, .slice a2 rk.kids.length cap2] 49))
        refine hK.out _ _ hS2 (fun hS => ?_)
        clear hK K
        clear hb2
        refine wpAnyH_ready (rs := [5]) (by kernel_rfl) (by simp) (AllReadyH.cons (o := { dst := some 43, op := Op.call { callee := Callee.builtin Builtin.append, args := #[Operand.tmp 39, Operand.tmp 42], argTypes := #[47, 47] }, type := 47, pos := _, after := _, guard := none }) rfl (fun K hK => ?_) AllReadyH.nil)
        obtain ⟨i0, hinf, hz0, hz1, hz2⟩ := info_parts infoDat
        refine step_append_where rfl (.tmp 39) (.tmp 42) 47 rfl (w.heap.size + 3) 49 i0 _ 6 72 Tryd.underlying47 hinf hz0 hz1 hz2 rfl (by decide) v es.length (flat es) rfl (by exact BS_1.out.row.own.alloc _) ⟨w2.heap.size, 0, none⟩ 1 1 [.int .i64 rk.kind, .int .i64 rk.n, .string rk.name, .int .i64 rk.stamp, .int .i64 rk.lib, .slice a2 rk.kids.length cap2] rfl rfl ?_ ?_ (by decide) ?_ ?_ ?_ ?_
        · intro q u hq
          have hcell := World.cell?_alloc_mark w2 #[.int .i64 rk.kind, .int .i64 rk.n, .string rk.name, .int .i64 rk.stamp, .int .i64 rk.lib, .slice a2 rk.kids.length cap2] 49 (0, 0) q
          have hadd := addr_add w2.heap.size q
          rw [hadd, hcell]
          simpa using hq
        · intro u hu
          simp at hu
          rcases hu with rfl | rfl | rfl | rfl | rfl | rfl <;> rfl
        · have := HES.out; unfold maxLen; omega
        · have := HES.out; omega
        · simp; omega
        intro v' w4 hown4 hg4 hw4
        have HROW : Hid (RowC (w.heap.size + 3) v' (es ++ [(rk, a2, cap2)]) w4) := RowC.push (f := f2) (wr := wr) (w := w2) _ BS_1.out.row (by omega) (fun k hk => (HR.out.row.own.lt k hk).2) HD2.out.2 HN.out HD2.out.1 hown4 hg4 (by simpa using hw4)
        have hrow : ∀ k, v.ownBlock = some k → w.heap.size + 3 ≤ k ∧ k < wr.heap.size := fun k hk => ⟨(BS_1.out.row.own.lt k hk).1, (HR.out.row.own.lt k hk).2⟩
        have H4 : Hid (Below w.heap.size w w4 ∧ Nod (w.heap.size + 1) zeroD (.slice none 0 0) w4 ∧ Nod (w.heap.size + 1 + 1) ⟨4, 0, ⟨#[]⟩, 0, 0, []⟩ v w4 ∧ Nod w.heap.size D0 SL w4) := ⟨(BS_1.out.old.alloc (by omega) _).grown hg4 (by simp; omega) (fun k hk => by have := hrow k hk; omega), (BS_1.out.res.alloc _).grown hg4 (fun e => by have := hrow _ e.symm; omega), (BS_1.out.out.alloc _).grown hg4 (fun e => by have := hrow _ e.symm; omega), (BS_1.out.inn.alloc _).grown hg4 (fun e => by have := hrow _ e.symm; omega)⟩
        have hS4 : w4.heap[wr.heap.size]? = some (.cells #[.int .i64 kid.kind, .int .i64 kid.n, .string kid.name, .int .i64 kid.stamp, .int .i64 kid.lib, .slice a' kid.kids.length cap'] 49 (0, 0)) := (hg4.block _ (by simp; omega) (fun e => by have := hrow _ e.symm; omega)).trans hS
        clear hown4 hg4 hw4 hrow HD2
        show K _ w4
        refine hK.out _ _ hS4 (fun hS => ?_)
        clear hK K
        refine wpAnyH_take (i := 6) (oi := { dst := some 44, op := Op.fieldAddr 49 (Operand.tmp 3) 5, type := 0, pos := _, after := _, guard := none }) (v := .pointer (some ⟨w.heap.size + 1 + 1, 5, none⟩)) rfl (by kernel_rfl) (by kernel_rfl) (by kernel_rfl) (fun _ _ _ h => h) (Or.inl ⟨by rfl, fun u hu => by go_simp⟩) hS ?_
        simp only [Act.put, List.setIfInBounds_toArray, List.set_cons_zero, List.set_cons_succ]
        refine wpAnyH_ready (rs := [7]) (by kernel_rfl) (by simp) (AllReadyH.cons (o := { dst := none, op := Op.store 47 (Operand.tmp 44) (Operand.tmp 43), type := 0, pos := _, after := _, guard := none }) rfl (fun K hK => ?_) AllReadyH.nil)
        obtain ⟨sa, sn, sc, hsv⟩ := HROW.out.slice
        subst hsv
        obtain ⟨n0, n1, n2, n3, n4, n5, n6, nz⟩ := H4.out.2.2.1
        go_simp
        clear n0 n1 n2 n3 n4 n5 n6 nz
        have hke : Keep (w.heap.size + 1 + 1) w4 (w4.setCell ⟨w.heap.size + 1 + 1, 5, none⟩ (.slice sa sn sc)) := (Keep.refl _ _).setCell _ rfl _
        have HO := hidd (H4.out.2.2.1.set5 (.slice sa sn sc))
        have H5 : Hid (BR w D0 SL ⟨4, 0, ⟨#[]⟩, 0, 0, []⟩ (.slice sa sn sc) (es ++ [(rk, a2, cap2)]) (w4.setCell ⟨w.heap.size + 1 + 1, 5, none⟩ (.slice sa sn sc))) := ⟨H4.out.1.setCell (p := ⟨w.heap.size + 1 + 1, 5, none⟩) (by show w.heap.size ≤ w.heap.size + 1 + 1; omega) _, H4.out.2.2.2.keep hke (by omega), H4.out.2.1.keep hke (by omega), HO.out, RowC.keep HROW.out hke (by omega)⟩
        have hS5 : (w4.setCell ⟨w.heap.size + 1 + 1, 5, none⟩ (.slice sa sn sc)).heap[wr.heap.size]? = some (.cells #[.int .i64 kid.kind, .int .i64 kid.n, .string kid.name, .int .i64 kid.stamp, .int .i64 kid.lib, .slice a' kid.kids.length cap'] 49 (0, 0)) := (hke.block _ (Array.getElem?_eq_some_iff.1 hS).1 (by simp; omega)).trans hS
        change K _ (w4.setCell ⟨w.heap.size + 1 + 1, 5, none⟩ (.slice sa sn sc))
        generalize w4.setCell ⟨w.heap.size + 1 + 1, 5, none⟩ (.slice sa sn sc) = w5 at H5 hS5 ⊢
        clear HO hke H4 HROW
        refine hK.out _ _ hS5 (fun hS => ?_)
        clear hK K
        refine wpAnyH_done (by kernel_rfl) ?_ _
        go_wp2_with fail
        go_roundw
        case rel => exact ⟨j + 1, _, _, by omega, by go_num, (show _ = _ by rw [TK.out, List.map_append, HSM.out]; rfl), H5.out⟩
        case measure => simp [intOf]; omega
      · go_simp
        refine (CA.out (wr.alloc (.cells #[.int .i64 kid.kind, .int .i64 kid.n, .string kid.name, .int .i64 kid.stamp, .int .i64 kid.lib, .slice a' kid.kids.length cap'] 49)).drew BS_0.out.old).mono ?_
        rintro e w2 ⟨hb1, a2, cap2, f2, rfl, hcap2, hdc2⟩
        have BS_1 : Hid (BR w D0 SL ⟨4, 0, ⟨#[]⟩, 0, 0, []⟩ v es (w2)) := BS_0.out.below hb1
        have hs2 : wr.heap.size + 1 ≤ w2.heap.size := by have := hb1.size; simpa [World.drew] using this
        have HD2 : Hid (rk.kids.length ≤ cap2 ∧ Dc (New wr w2) w2 f2 a2 rk.kids) := ⟨hcap2, Dc.stay (fun _ _ => rfl) (fun k hk => ⟨by have := hk.1; simp [World.drew] at this; omega, hk.2⟩) _ _ _ hdc2⟩
        have hS1 : w2.heap[wr.heap.size]? = some (.cells #[.int .i64 kid.kind, .int .i64 kid.n, .string kid.name, .int .i64 kid.stamp, .int .i64 kid.lib, .slice a' kid.kids.length cap'] 49 (0, 0)) := (hb1.block _ (Array.getElem?_eq_some_iff.1 hS).1).trans hS
        clear hb1 hcap2 hdc2
        unfold dv
        simp only
        show K _ w2
        refine hK.out _ _ hS1 (fun hS => ?_)
        clear hK K
        refine wpAnyH_ready (rs := [1, 4]) (by kernel_rfl) (by simp) (AllReadyH.cons (o := { dst := some 39, op := Op.load 47 (Operand.tmp 38), type := 47, pos := _, after := _, guard := none }) rfl (fun K hK => ?_) (AllReadyH.cons (o := { dst := some 42, op := Op.buildSlice 47 1 #[(0, Operand.tmp 41)], type := 47, pos := _, after := _, guard := none }) rfl (fun K hK => ?_) AllReadyH.nil))
        · have zo := BS_1.out.out.q5
          go_simp
          clear zo
          refine hK.out _ _ hS (fun hS => ?_)
          clear hK K
          refine wpAnyH_ready (rs := [4]) (by kernel_rfl) (by simp) (AllReadyH.cons (o := { dst := some 42, op := Op.buildSlice 47 1 #[(0, Operand.tmp 41)], type := 47, pos := _, after := _, guard := none }) rfl (fun K hK => ?_) AllReadyH.nil)
          go_simp
          have hb2 : Below w2.heap.size w2 (w2.alloc (.cells #[.int .i64 rk.kind, .int .i64 rk.n, .string rk.name, .int .i64 rk.stamp, .int .i64 rk.lib, .slice a2 rk.kids.length cap2] 49)) := (Below.refl _ _).alloc (Nat.le_refl _) _
          have hS2 : (w2.alloc (.cells #[.int .i64 rk.kind, .int .i64 rk.n, .string rk.name, .int .i64 rk.stamp, .int .i64 rk.lib, .slice a2 rk.kids.length cap2] 49)).heap[wr.heap.size]? = some (.cells #[.int .i64 kid.kind, .int .i64 kid.n, .string kid.name, .int .i64 kid.stamp, .int .i64 kid.lib, .slice a' kid.kids.length cap'] 49 (0, 0)) := (hb2.block _ (Array.getElem?_eq_some_iff.1 hS).1).trans hS
          change K _ (w2.alloc (.cells #[.int .i64 rk.kind, .int .i64 rk.n, .string rk.name, .int .i64 rk.stamp, .int .i64 rk.lib, .slice a2 rk.kids.length cap2] 49))
          refine hK.out _ _ hS2 (fun hS => ?_)
          clear hK K
          clear hb2
          refine wpAnyH_ready (rs := [5]) (by kernel_rfl) (by simp) (AllReadyH.cons (o := { dst := some 43, op := Op.call { callee := Callee.builtin Builtin.append, args := #[Operand.tmp 39, Operand.tmp 42], argTypes := #[47, 47] }, type := 47, pos := _, after := _, guard := none }) rfl (fun K hK => ?_) AllReadyH.nil)
          obtain ⟨i0, hinf, hz0, hz1, hz2⟩ := info_parts infoDat
          refine step_append_where rfl (.tmp 39) (.tmp 42) 47 rfl (w.heap.size + 3) 49 i0 _ 6 72 Tryd.underlying47 hinf hz0 hz1 hz2 rfl (by decide) v es.length (flat es) rfl (by exact BS_1.out.row.own.alloc _) ⟨w2.heap.size, 0, none⟩ 1 1 [.int .i64 rk.kind, .int .i64 rk.n, .string rk.name, .int .i64 rk.stamp, .int .i64 rk.lib, .slice a2 rk.kids.length cap2] rfl rfl ?_ ?_ (by decide) ?_ ?_ ?_ ?_
          · intro q u hq
            have hcell := World.cell?_alloc_mark w2 #[.int .i64 rk.kind, .int .i64 rk.n, .string rk.name, .int .i64 rk.stamp, .int .i64 rk.lib, .slice a2 rk.kids.length cap2] 49 (0, 0) q
            have hadd := addr_add w2.heap.size q
            rw [hadd, hcell]
            simpa using hq
          · intro u hu
            simp at hu
            rcases hu with rfl | rfl | rfl | rfl | rfl | rfl <;> rfl
          · have := HES.out; unfold maxLen; omega
          · have := HES.out; omega
          · simp; omega
          intro v' w4 hown4 hg4 hw4
          have HROW : Hid (RowC (w.heap.size + 3) v' (es ++ [(rk, a2, cap2)]) w4) := RowC.push (f := f2) (wr := wr) (w := w2) _ BS_1.out.row (by omega) (fun k hk => (HR.out.row.own.lt k hk).2) HD2.out.2 HN.out HD2.out.1 hown4 hg4 (by simpa using hw4)
          have hrow : ∀ k, v.ownBlock = some k → w.heap.size + 3 ≤ k ∧ k < wr.heap.size := fun k hk => ⟨(BS_1.out.row.own.lt k hk).1, (HR.out.row.own.lt k hk).2⟩
          have H4 : Hid (Below w.heap.size w w4 ∧ Nod (w.heap.size + 1) zeroD (.slice none 0 0) w4 ∧ Nod (w.heap.size + 1 + 1) ⟨4, 0, ⟨#[]⟩, 0, 0, []⟩ v w4 ∧ Nod w.heap.size D0 SL w4) := ⟨(BS_1.out.old.alloc (by omega) _).grown hg4 (by simp; omega) (fun k hk => by have := hrow k hk; omega), (BS_1.out.res.alloc _).grown hg4 (fun e => by have := hrow _ e.symm; omega), (BS_1.out.out.alloc _).grown hg4 (fun e => by have := hrow _ e.symm; omega), (BS_1.out.inn.alloc _).grown hg4 (fun e => by have := hrow _ e.symm; omega)⟩
          have hS4 : w4.heap[wr.heap.size]? = some (.cells #[.int .i64 kid.kind, .int .i64 kid.n, .string kid.name, .int .i64 kid.stamp, .int .i64 kid.lib, .slice a' kid.kids.length cap'] 49 (0, 0)) := (hg4.block _ (by simp; omega) (fun e => by have := hrow _ e.symm; omega)).trans hS
          clear hown4 hg4 hw4 hrow HD2
          show K _ w4
          refine hK.out _ _ hS4 (fun hS => ?_)
          clear hK K
          refine wpAnyH_take (i := 6) (oi := { dst := some 44, op := Op.fieldAddr 49 (Operand.tmp 3) 5, type := 0, pos := _, after := _, guard := none }) (v := .pointer (some ⟨w.heap.size + 1 + 1, 5, none⟩)) rfl (by kernel_rfl) (by kernel_rfl) (by kernel_rfl) (fun _ _ _ h => h) (Or.inl ⟨by rfl, fun u hu => by go_simp⟩) hS ?_
          simp only [Act.put, List.setIfInBounds_toArray, List.set_cons_zero, List.set_cons_succ]
          refine wpAnyH_ready (rs := [7]) (by kernel_rfl) (by simp) (AllReadyH.cons (o := { dst := none, op := Op.store 47 (Operand.tmp 44) (Operand.tmp 43), type := 0, pos := _, after := _, guard := none }) rfl (fun K hK => ?_) AllReadyH.nil)
          obtain ⟨sa, sn, sc, hsv⟩ := HROW.out.slice
          subst hsv
          obtain ⟨n0, n1, n2, n3, n4, n5, n6, nz⟩ := H4.out.2.2.1
          go_simp
          clear n0 n1 n2 n3 n4 n5 n6 nz
          have hke : Keep (w.heap.size + 1 + 1) w4 (w4.setCell ⟨w.heap.size + 1 + 1, 5, none⟩ (.slice sa sn sc)) := (Keep.refl _ _).setCell _ rfl _
          have HO := hidd (H4.out.2.2.1.set5 (.slice sa sn sc))
          have H5 : Hid (BR w D0 SL ⟨4, 0, ⟨#[]⟩, 0, 0, []⟩ (.slice sa sn sc) (es ++ [(rk, a2, cap2)]) (w4.setCell ⟨w.heap.size + 1 + 1, 5, none⟩ (.slice sa sn sc))) := ⟨H4.out.1.setCell (p := ⟨w.heap.size + 1 + 1, 5, none⟩) (by show w.heap.size ≤ w.heap.size + 1 + 1; omega) _, H4.out.2.2.2.keep hke (by omega), H4.out.2.1.keep hke (by omega), HO.out, RowC.keep HROW.out hke (by omega)⟩
          have hS5 : (w4.setCell ⟨w.heap.size + 1 + 1, 5, none⟩ (.slice sa sn sc)).heap[wr.heap.size]? = some (.cells #[.int .i64 kid.kind, .int .i64 kid.n, .string kid.name, .int .i64 kid.stamp, .int .i64 kid.lib, .slice a' kid.kids.length cap'] 49 (0, 0)) := (hke.block _ (Array.getElem?_eq_some_iff.1 hS).1 (by simp; omega)).trans hS
          change K _ (w4.setCell ⟨w.heap.size + 1 + 1, 5, none⟩ (.slice sa sn sc))
          generalize w4.setCell ⟨w.heap.size + 1 + 1, 5, none⟩ (.slice sa sn sc) = w5 at H5 hS5 ⊢
          clear HO hke H4 HROW
          refine hK.out _ _ hS5 (fun hS => ?_)
          clear hK K
          refine wpAnyH_done (by kernel_rfl) ?_ _
          go_wp2_with fail
          go_roundw
          case rel => exact ⟨j + 1, _, _, by omega, by go_num, (show _ = _ by rw [TK.out, List.map_append, HSM.out]; rfl), H5.out⟩
          case measure => simp [intOf]; omega
        · go_simp
          have hb2 : Below w2.heap.size w2 (w2.alloc (.cells #[.int .i64 rk.kind, .int .i64 rk.n, .string rk.name, .int .i64 rk.stamp, .int .i64 rk.lib, .slice a2 rk.kids.length cap2] 49)) := (Below.refl _ _).alloc (Nat.le_refl _) _
          have hS2 : (w2.alloc (.cells #[.int .i64 rk.kind, .int .i64 rk.n, .string rk.name, .int .i64 rk.stamp, .int .i64 rk.lib, .slice a2 rk.kids.length cap2] 49)).heap[wr.heap.size]? = some (.cells #[.int .i64 kid.kind, .int .i64 kid.n, .string kid.name, .int .i64 kid.stamp, .int .i64 kid.lib, .slice a' kid.kids.length cap'] 49 (0, 0)) := (hb2.block _ (Array.getElem?_eq_some_iff.1 hS).1).trans hS
          change K _ (w2.alloc (.cells #[.int .i64 rk.kind, .int .i64 rk.n, .string rk.name, .int .i64 rk.stamp, .int .i64 rk.lib, .slice a2 rk.kids.length cap2] 49))
          refine hK.out _ _ hS2 (fun hS => ?_)
          clear hK K
          clear hb2
          refine wpAnyH_ready (rs := [1]) (by kernel_rfl) (by simp) (AllReadyH.cons (o := { dst := some 39, op := Op.load 47 (Operand.tmp 38), type := 47, pos := _, after := _, guard := none }) rfl (fun K hK => ?_) AllReadyH.nil)
          have zo := (BS_1.out.below ((Below.refl _ _).alloc (Nat.le_refl _) (.cells #[.int .i64 rk.kind, .int .i64 rk.n, .string rk.name, .int .i64 rk.stamp, .int .i64 rk.lib, .slice a2 rk.kids.length cap2] 49))).out.q5
          go_simp
          clear zo
          refine hK.out _ _ hS (fun hS => ?_)
          clear hK K
          refine wpAnyH_ready (rs := [5]) (by kernel_rfl) (by simp) (AllReadyH.cons (o := { dst := some 43, op := Op.call { callee := Callee.builtin Builtin.append, args := #[Operand.tmp 39, Operand.tmp 42], argTypes := #[47, 47] }, type := 47, pos := _, after := _, guard := none }) rfl (fun K hK => ?_) AllReadyH.nil)
          obtain ⟨i0, hinf, hz0, hz1, hz2⟩ := info_parts infoDat
          refine step_append_where rfl (.tmp 39) (.tmp 42) 47 rfl (w.heap.size + 3) 49 i0 _ 6 72 Tryd.underlying47 hinf hz0 hz1 hz2 rfl (by decide) v es.length (flat es) rfl (by exact BS_1.out.row.own.alloc _) ⟨w2.heap.size, 0, none⟩ 1 1 [.int .i64 rk.kind, .int .i64 rk.n, .string rk.name, .int .i64 rk.stamp, .int .i64 rk.lib, .slice a2 rk.kids.length cap2] rfl rfl ?_ ?_ (by decide) ?_ ?_ ?_ ?_
          · intro q u hq
            have hcell := World.cell?_alloc_mark w2 #[.int .i64 rk.kind, .int .i64 rk.n, .string rk.name, .int .i64 rk.stamp, .int .i64 rk.lib, .slice a2 rk.kids.length cap2] 49 (0, 0) q
            have hadd := addr_add w2.heap.size q
            rw [hadd, hcell]
            simpa using hq
          · intro u hu
            simp at hu
            rcases hu with rfl | rfl | rfl | rfl | rfl | rfl <;> rfl
          · have := HES.out; unfold maxLen; omega
          · have := HES.out; omega
          · simp; omega
          intro v' w4 hown4 hg4 hw4
          have HROW : Hid (RowC (w.heap.size + 3) v' (es ++ [(rk, a2, cap2)]) w4) := RowC.push (f := f2) (wr := wr) (w := w2) _ BS_1.out.row (by omega) (fun k hk => (HR.out.row.own.lt k hk).2) HD2.out.2 HN.out HD2.out.1 hown4 hg4 (by simpa using hw4)
          have hrow : ∀ k, v.ownBlock = some k → w.heap.size + 3 ≤ k ∧ k < wr.heap.size := fun k hk => ⟨(BS_1.out.row.own.lt k hk).1, (HR.out.row.own.lt k hk).2⟩
          have H4 : Hid (Below w.heap.size w w4 ∧ Nod (w.heap.size + 1) zeroD (.slice none 0 0) w4 ∧ Nod (w.heap.size + 1 + 1) ⟨4, 0, ⟨#[]⟩, 0, 0, []⟩ v w4 ∧ Nod w.heap.size D0 SL w4) := ⟨(BS_1.out.old.alloc (by omega) _).grown hg4 (by simp; omega) (fun k hk => by have := hrow k hk; omega), (BS_1.out.res.alloc _).grown hg4 (fun e => by have := hrow _ e.symm; omega), (BS_1.out.out.alloc _).grown hg4 (fun e => by have := hrow _ e.symm; omega), (BS_1.out.inn.alloc _).grown hg4 (fun e => by have := hrow _ e.symm; omega)⟩
          have hS4 : w4.heap[wr.heap.size]? = some (.cells #[.int .i64 kid.kind, .int .i64 kid.n, .string kid.name, .int .i64 kid.stamp, .int .i64 kid.lib, .slice a' kid.kids.length cap'] 49 (0, 0)) := (hg4.block _ (by simp; omega) (fun e => by have := hrow _ e.symm; omega)).trans hS
          clear hown4 hg4 hw4 hrow HD2
          show K _ w4
          refine hK.out _ _ hS4 (fun hS => ?_)
          clear hK K
          refine wpAnyH_take (i := 6) (oi := { dst := some 44, op := Op.fieldAddr 49 (Operand.tmp 3) 5, type := 0, pos := _, after := _, guard := none }) (v := .pointer (some ⟨w.heap.size + 1 + 1, 5, none⟩)) rfl (by kernel_rfl) (by kernel_rfl) (by kernel_rfl) (fun _ _ _ h => h) (Or.inl ⟨by rfl, fun u hu => by go_simp⟩) hS ?_
          simp only [Act.put, List.setIfInBounds_toArray, List.set_cons_zero, List.set_cons_succ]
          refine wpAnyH_ready (rs := [7]) (by kernel_rfl) (by simp) (AllReadyH.cons (o := { dst := none, op := Op.store 47 (Operand.tmp 44) (Operand.tmp 43), type := 0, pos := _, after := _, guard := none }) rfl (fun K hK => ?_) AllReadyH.nil)
          obtain ⟨sa, sn, sc, hsv⟩ := HROW.out.slice
          subst hsv
          obtain ⟨n0, n1, n2, n3, n4, n5, n6, nz⟩ := H4.out.2.2.1
          go_simp
          clear n0 n1 n2 n3 n4 n5 n6 nz
          have hke : Keep (w.heap.size + 1 + 1) w4 (w4.setCell ⟨w.heap.size + 1 + 1, 5, none⟩ (.slice sa sn sc)) := (Keep.refl _ _).setCell _ rfl _
          have HO := hidd (H4.out.2.2.1.set5 (.slice sa sn sc))
          have H5 : Hid (BR w D0 SL ⟨4, 0, ⟨#[]⟩, 0, 0, []⟩ (.slice sa sn sc) (es ++ [(rk, a2, cap2)]) (w4.setCell ⟨w.heap.size + 1 + 1, 5, none⟩ (.slice sa sn sc))) := ⟨H4.out.1.setCell (p := ⟨w.heap.size + 1 + 1, 5, none⟩) (by show w.heap.size ≤ w.heap.size + 1 + 1; omega) _, H4.out.2.2.2.keep hke (by omega), H4.out.2.1.keep hke (by omega), HO.out, RowC.keep HROW.out hke (by omega)⟩
          have hS5 : (w4.setCell ⟨w.heap.size + 1 + 1, 5, none⟩ (.slice sa sn sc)).heap[wr.heap.size]? = some (.cells #[.int .i64 kid.kind, .int .i64 kid.n, .string kid.name, .int .i64 kid.stamp, .int .i64 kid.lib, .slice a' kid.kids.length cap'] 49 (0, 0)) := (hke.block _ (Array.getElem?_eq_some_iff.1 hS).1 (by simp; omega)).trans hS
          change K _ (w4.setCell ⟨w.heap.size + 1 + 1, 5, none⟩ (.slice sa sn sc))
          generalize w4.setCell ⟨w.heap.size + 1 + 1, 5, none⟩ (.slice sa sn sc) = w5 at H5 hS5 ⊢
          clear HO hke H4 HROW
          refine hK.out _ _ hS5 (fun hS => ?_)
          clear hK K
          refine wpAnyH_done (by kernel_rfl) ?_ _
          go_wp2_with fail
          go_roundw
          case rel => exact ⟨j + 1, _, _, by omega, by go_num, (show _ = _ by rw [TK.out, List.map_append, HSM.out]; rfl), H5.out⟩
          case measure => simp [intOf]; omega
    · obtain rfl : j = ks.length := by omega
      obtain ⟨ao, cp, f', hv, hcp, hdc⟩ := HR.out.row.lie (by have := HES.out; omega)
      have e2 : es.map (·.1) = ks.map bareQ := by
        have := HSM.out
        rwa [List.take_length] at this
      rw [e2] at hv hcp hdc
      rw [List.length_map] at hv
      subst hv
      have END := hidd (bare_end (k := 4) (n := 0) (nm := ⟨#[]⟩) (st := 0) (lb := 0) (len := ks.length) (cap := cp) (List.length_map _).symm HR.out.old HR.out.res hdc hcp)
      obtain ⟨p, p0, p1, p2, p3, p4, p5, pz⟩ := HR.out.out
      obtain ⟨q, q0, q1, q2, q3, q4, q5, qz⟩ := HR.out.res
      simp only [zeroD, emS] at p0 p1 p2 p3 p4 p5 q0 q1 q2 q3 q4 q5
      go_wp2_with fail
      clear p p0 p1 p2 p3 p4 p5 pz q q0 q1 q2 q3 q4 q5 qz
      exact bodyPost_ret (ret33 END.out.1 rfl) rfl END.out.2

theorem BR.upd {w W W' : World} {d0 o o' : Dat} {sl v : Value} {es : List (Dat × Option Addr × Nat)} (h : BR w d0 sl o v es W) (hk : Keep (w.heap.size + 1 + 1) W W') (ho : Nod (w.heap.size + 1 + 1) o' v W') : BR w d0 sl o' v es W' :=
  ⟨h.old.trans (hk.toBelow (by omega) h.old.size), h.inn.keep hk (by omega), h.res.keep hk (by omega), ho, h.row.keep hk (by omega)⟩

set_option maxRecDepth 100000 in
set_option maxHeartbeats 1600000 in
theorem RBare_leaf (f : Nat) (d : Dat) (a : Option Addr) (cap : Nat) (w : World) (hk4 : d.kind ≠ 4) (hl : Dn w f a d.kids) (hcap : d.kids.length ≤ cap) (hst : stQ d) : Calls Tryd.prog 19 #[dv d a cap] w (ToldB (bareQ d) w) := by
  obtain ⟨k, n, nm, st, lb, ks⟩ := d
  rw [stQ] at hst
  have FS := hidd hst
  have h4 : ¬ k = 4 := hk4
  simp only at hl hcap
  have HL := hidd hl
  have hlen : ks.length ≤ 9223372036854775807 := by
    cases f with
    | zero => rw [show ks = [] from hl]; exact Nat.zero_le _
    | succ f => exact hl.1
  clear hk4 hst hl
  have RB : Hid (bareQ ⟨k, n, nm, st, lb, ks⟩ = ⟨k, if k = 1 ∨ k = 2 then n else 0, if k = 3 then nm else ⟨#[]⟩, 0, 0, []⟩) := by show _ = _; rw [bareQ, if_neg h4]
  have S0 := hidd (BR.start w k n nm st lb (.slice a ks.length cap))
  have S1 := hidd (BR.start1 w k n nm st lb (.slice a ks.length cap))
  have h4' : (k == 4) = false := by simpa using h4
  have hsz := bareW_size w k n nm st lb (.slice a ks.length cap)
  unfold dv
  obtain ⟨r, r0, r1, r2, r3, r4, r5, rz⟩ := S0.out.inn
  obtain ⟨p, p0, p1, p2, p3, p4, p5, pz⟩ := S0.out.out
  simp only at r0 r1 r2 r3 r4 r5 p0 p1 p2 p3 p4 p5
  unfold bareW at r0 r1 r2 r3 r4 r5 rz p0 p1 p2 p3 p4 p5 pz
  go_enter Tryd.func19, Tryd.ntmps19
  go_upto_block 0 with fail
  go_cut [3] from 11 to 27 (fun s3 wx => s3 = .pointer (some ⟨w.heap.size + 1 + 1, 0, none⟩) ∧ Hid (BR w ⟨k, n, nm, st, lb, []⟩ (.slice a ks.length cap) ⟨k, if k = 1 ∨ k = 2 then n else 0, if k = 3 then nm else ⟨#[]⟩, 0, 0, []⟩ (.slice none 0 0) [] wx))
  case first =>
    clear HL RB
    by_cases e1 : k = 1
    · subst e1
      clear S0 FS
      go_wp2_with fail
      go_meet
      case rel => exact ⟨rfl, by show BR _ _ _ _ _ _ _; simpa using S1.out⟩
    by_cases e2 : k = 2
    · subst e2
      clear S0 FS
      go_wp2_with fail
      go_meet
      case rel => exact ⟨rfl, by show BR _ _ _ _ _ _ _; simpa using S1.out⟩
    have f1 : (k == 1) = false := by simpa using e1
    have f2 : (k == 2) = false := by simpa using e2
    by_cases e3 : k = 3
    · subst e3
      obtain ⟨hs1, hs2⟩ := FS.out.1 rfl
      subst hs1 hs2
      clear FS S1
      go_upto_region 7 with fail
      have H00 : Hid (BR w ⟨3, n, nm, 0, 0, []⟩ (.slice a ks.length cap) ⟨3, 0, ⟨#[]⟩, 0, 0, []⟩ (.slice none 0 0) [] (((w.alloc (.cells #[.int .i64 3, .int .i64 n, .string nm, .int .i64 0, .int .i64 0, .slice a ks.length cap] 49)).alloc (.cells #[.int .i64 0, .int .i64 0, .string ⟨#[]⟩, .int .i64 0, .int .i64 0, .slice none 0 0] 49)).alloc (.cells #[.int .i64 3, .int .i64 0, .string ⟨#[]⟩, .int .i64 0, .int .i64 0, .slice none 0 0] 49))) := S0.out
      have HIN : Hid ((((w.alloc (.cells #[.int .i64 3, .int .i64 n, .string nm, .int .i64 0, .int .i64 0, .slice a ks.length cap] 49)).alloc (.cells #[.int .i64 0, .int .i64 0, .string ⟨#[]⟩, .int .i64 0, .int .i64 0, .slice none 0 0] 49)).alloc (.cells #[.int .i64 3, .int .i64 0, .string ⟨#[]⟩, .int .i64 0, .int .i64 0, .slice none 0 0] 49)).heap[w.heap.size]? = some (.cells #[.int .i64 3, .int .i64 n, .string nm, .int .i64 0, .int .i64 0, .slice a ks.length cap] 49 (0, 0))) := (Below.heap_alloc _ _ _ (by simp; omega)).trans ((Below.heap_alloc _ _ _ (by simp)).trans (World.alloc_heap_new w _))
      clear r r0 r1 r2 r3 r4 r5 rz p p0 p1 p2 p3 p4 p5 pz S0
      generalize ((w.alloc (.cells #[.int .i64 3, .int .i64 n, .string nm, .int .i64 0, .int .i64 0, .slice a ks.length cap] 49)).alloc (.cells #[.int .i64 0, .int .i64 0, .string ⟨#[]⟩, .int .i64 0, .int .i64 0, .slice none 0 0] 49)).alloc (.cells #[.int .i64 3, .int .i64 0, .string ⟨#[]⟩, .int .i64 0, .int .i64 0, .slice none 0 0] 49) = W0 at H00 HIN ⊢
      have H0 := hidd (H00.out.below (Below.drew (Below.refl _ _)))
      have hlt2 := H0.out.out.lt
      refine wp_region_held_drew (S := fun u => u.heap[w.heap.size]? = some (.cells #[.int .i64 3, .int .i64 n, .string nm, .int .i64 0, .int .i64 0, .slice a ks.length cap] 49 (0, 0))) (by kernel_rfl) HIN.out (fun hS => ?_)
      refine wpAnyH_take (i := 0) (oi := { dst := some 19, op := Op.fieldAddr 49 (Operand.tmp 1) 2, type := 0, pos := _, after := _, guard := none }) (v := .pointer (some ⟨w.heap.size, 2, none⟩)) rfl (by kernel_rfl) (by kernel_rfl) (by kernel_rfl) (fun _ _ _ h => h) (Or.inl ⟨by rfl, fun u hu => by go_simp⟩) hS ?_
      simp only [Act.put, List.setIfInBounds_toArray, List.set_cons_zero, List.set_cons_succ]
      refine wpAnyH_take (i := 1) (oi := { dst := some 20, op := Op.load 9 (Operand.tmp 19), type := 9, pos := _, after := _, guard := none }) (v := .string nm) rfl (by kernel_rfl) (by kernel_rfl) (by kernel_rfl) (fun _ _ _ h => h) (Or.inl ⟨by rfl, fun u hu => by (have z : u.cell? ⟨w.heap.size, 2, none⟩ = some (.string nm) := (by simp [World.cell?, show u.heap[w.heap.size]? = _ from hu]); go_simp)⟩) hS ?_
      simp only [Act.put, List.setIfInBounds_toArray, List.set_cons_zero, List.set_cons_succ]
      refine wpAnyH_take (i := 2) (oi := { dst := some 21, op := Op.fieldAddr 49 (Operand.tmp 1) 3, type := 0, pos := _, after := _, guard := none }) (v := .pointer (some ⟨w.heap.size, 3, none⟩)) rfl (by kernel_rfl) (by kernel_rfl) (by kernel_rfl) (fun _ _ _ h => h) (Or.inl ⟨by rfl, fun u hu => by go_simp⟩) hS ?_
      simp only [Act.put, List.setIfInBounds_toArray, List.set_cons_zero, List.set_cons_succ]
      refine wpAnyH_take (i := 3) (oi := { dst := some 22, op := Op.load 3 (Operand.tmp 21), type := 3, pos := _, after := _, guard := none }) (v := .int .i64 0) rfl (by kernel_rfl) (by kernel_rfl) (by kernel_rfl) (fun _ _ _ h => h) (Or.inl ⟨by rfl, fun u hu => by (have z : u.cell? ⟨w.heap.size, 3, none⟩ = some (.int .i64 0) := (by simp [World.cell?, show u.heap[w.heap.size]? = _ from hu]); go_simp)⟩) hS ?_
      simp only [Act.put, List.setIfInBounds_toArray, List.set_cons_zero, List.set_cons_succ]
      refine wpAnyH_take (i := 4) (oi := { dst := some 23, op := Op.fieldAddr 49 (Operand.tmp 1) 4, type := 0, pos := _, after := _, guard := none }) (v := .pointer (some ⟨w.heap.size, 4, none⟩)) rfl (by kernel_rfl) (by kernel_rfl) (by kernel_rfl) (fun _ _ _ h => h) (Or.inl ⟨by rfl, fun u hu => by go_simp⟩) hS ?_
      simp only [Act.put, List.setIfInBounds_toArray, List.set_cons_zero, List.set_cons_succ]
      refine wpAnyH_take (i := 5) (oi := { dst := some 24, op := Op.load 3 (Operand.tmp 23), type := 3, pos := _, after := _, guard := none }) (v := .int .i64 0) rfl (by kernel_rfl) (by kernel_rfl) (by kernel_rfl) (fun _ _ _ h => h) (Or.inl ⟨by rfl, fun u hu => by (have z : u.cell? ⟨w.heap.size, 4, none⟩ = some (.int .i64 0) := (by simp [World.cell?, show u.heap[w.heap.size]? = _ from hu]); go_simp)⟩) hS ?_
      simp only [Act.put, List.setIfInBounds_toArray, List.set_cons_zero, List.set_cons_succ]
      refine wpAnyH_take (i := 6) (oi := { dst := some 25, op := Op.fieldAddr 49 (Operand.tmp 3) 2, type := 0, pos := _, after := _, guard := none }) (v := .pointer (some ⟨w.heap.size + 1 + 1, 2, none⟩)) rfl (by kernel_rfl) (by kernel_rfl) (by kernel_rfl) (fun _ _ _ h => h) (Or.inl ⟨by rfl, fun u hu => by go_simp⟩) hS ?_
      simp only [Act.put, List.setIfInBounds_toArray, List.set_cons_zero, List.set_cons_succ]
      refine wpAnyH_ready (rs := [7]) (by kernel_rfl) (by simp) (AllReadyH.cons (o := { dst := none, op := Op.store 9 (Operand.tmp 25) (Operand.tmp 20), type := 0, pos := _, after := _, guard := none }) rfl (fun K hK => ?_) AllReadyH.nil)
      obtain ⟨p, p0, p1, p2, p3, p4, p5, pz⟩ := H0.out.out
      simp only at p0 p1 p2 p3 p4 p5
      go_simp
      clear p p0 p1 p2 p3 p4 p5 pz
      have hke1 : Keep (w.heap.size + 1 + 1) W0.drew (W0.drew.setCell ⟨w.heap.size + 1 + 1, 2, none⟩ (.string nm)) := (Keep.refl _ _).setCell _ rfl _
      have H1 := hidd (H0.out.upd hke1 (H0.out.out.set2 nm))
      have hS1 : (W0.drew.setCell ⟨w.heap.size + 1 + 1, 2, none⟩ (.string nm)).heap[w.heap.size]? = some (.cells #[.int .i64 3, .int .i64 n, .string nm, .int .i64 0, .int .i64 0, .slice a ks.length cap] 49 (0, 0)) := (hke1.block _ (Array.getElem?_eq_some_iff.1 hS).1 (by simp; omega)).trans hS
      simp only at H1
      change K _ (W0.drew.setCell ⟨w.heap.size + 1 + 1, 2, none⟩ (.string nm))
      generalize W0.drew.setCell ⟨w.heap.size + 1 + 1, 2, none⟩ (.string nm) = X1 at H1 hS1 hke1 ⊢
      clear hke1
      refine hK.out _ _ hS1 (fun hS => ?_)
      clear hK K
      refine wpAnyH_take (i := 8) (oi := { dst := some 26, op := Op.fieldAddr 49 (Operand.tmp 3) 3, type := 0, pos := _, after := _, guard := none }) (v := .pointer (some ⟨w.heap.size + 1 + 1, 3, none⟩)) rfl (by kernel_rfl) (by kernel_rfl) (by kernel_rfl) (fun _ _ _ h => h) (Or.inl ⟨by rfl, fun u hu => by go_simp⟩) hS ?_
      simp only [Act.put, List.setIfInBounds_toArray, List.set_cons_zero, List.set_cons_succ]
      refine wpAnyH_ready (rs := [9]) (by kernel_rfl) (by simp) (AllReadyH.cons (o := { dst := none, op := Op.store 3 (Operand.tmp 26) (Operand.tmp 22), type := 0, pos := _, after := _, guard := none }) rfl (fun K hK => ?_) AllReadyH.nil)
      obtain ⟨p, p0, p1, p2, p3, p4, p5, pz⟩ := H1.out.out
      simp only at p0 p1 p2 p3 p4 p5
      go_simp
      clear p p0 p1 p2 p3 p4 p5 pz
      have hke2 : Keep (w.heap.size + 1 + 1) X1 (X1.setCell ⟨w.heap.size + 1 + 1, 3, none⟩ (.int .i64 0)) := (Keep.refl _ _).setCell _ rfl _
      have H2 := hidd (H1.out.upd hke2 (H1.out.out.set3 0))
      have hS2 : (X1.setCell ⟨w.heap.size + 1 + 1, 3, none⟩ (.int .i64 0)).heap[w.heap.size]? = some (.cells #[.int .i64 3, .int .i64 n, .string nm, .int .i64 0, .int .i64 0, .slice a ks.length cap] 49 (0, 0)) := (hke2.block _ (Array.getElem?_eq_some_iff.1 hS).1 (by simp; omega)).trans hS
      simp only at H2
      change K _ (X1.setCell ⟨w.heap.size + 1 + 1, 3, none⟩ (.int .i64 0))
      generalize X1.setCell ⟨w.heap.size + 1 + 1, 3, none⟩ (.int .i64 0) = X2 at H2 hS2 hke2 ⊢
      clear hke2
      refine hK.out _ _ hS2 (fun hS => ?_)
      clear hK K
      refine wpAnyH_take (i := 10) (oi := { dst := some 27, op := Op.fieldAddr 49 (Operand.tmp 3) 4, type := 0, pos := _, after := _, guard := none }) (v := .pointer (some ⟨w.heap.size + 1 + 1, 4, none⟩)) rfl (by kernel_rfl) (by kernel_rfl) (by kernel_rfl) (fun _ _ _ h => h) (Or.inl ⟨by rfl, fun u hu => by go_simp⟩) hS ?_
      simp only [Act.put, List.setIfInBounds_toArray, List.set_cons_zero, List.set_cons_succ]
      refine wpAnyH_ready (rs := [11]) (by kernel_rfl) (by simp) (AllReadyH.cons (o := { dst := none, op := Op.store 3 (Operand.tmp 27) (Operand.tmp 24), type := 0, pos := _, after := _, guard := none }) rfl (fun K hK => ?_) AllReadyH.nil)
      obtain ⟨p, p0, p1, p2, p3, p4, p5, pz⟩ := H2.out.out
      simp only at p0 p1 p2 p3 p4 p5
      go_simp
      clear p p0 p1 p2 p3 p4 p5 pz
      have hke3 : Keep (w.heap.size + 1 + 1) X2 (X2.setCell ⟨w.heap.size + 1 + 1, 4, none⟩ (.int .i64 0)) := (Keep.refl _ _).setCell _ rfl _
      have H3 := hidd (H2.out.upd hke3 (H2.out.out.set4 0))
      have hS3 : (X2.setCell ⟨w.heap.size + 1 + 1, 4, none⟩ (.int .i64 0)).heap[w.heap.size]? = some (.cells #[.int .i64 3, .int .i64 n, .string nm, .int .i64 0, .int .i64 0, .slice a ks.length cap] 49 (0, 0)) := (hke3.block _ (Array.getElem?_eq_some_iff.1 hS).1 (by simp; omega)).trans hS
      simp only at H3
      change K _ (X2.setCell ⟨w.heap.size + 1 + 1, 4, none⟩ (.int .i64 0))
      generalize X2.setCell ⟨w.heap.size + 1 + 1, 4, none⟩ (.int .i64 0) = X3 at H3 hS3 hke3 ⊢
      clear hke3
      refine hK.out _ _ hS3 (fun hS => ?_)
      clear hK K
      refine wpAnyH_done (by kernel_rfl) ?_ _
      go_wp2_with fail
      go_meet
      case rel => exact ⟨rfl, H3.out⟩
    have f3 : (k == 3) = false := by simpa using e3
    have E12 : Hid (¬ (k = 1 ∨ k = 2) ∧ ¬ k = 3) := ⟨by rintro (h | h) <;> contradiction, e3⟩
    clear S1 FS e1 e2 e3
    go_wp2_with fail
    go_meet
    case rel => exact ⟨rfl, by show BR _ _ _ _ _ _ _; rw [if_neg E12.out.1, if_neg E12.out.2]; exact S0.out⟩
  case rest =>
  obtain ⟨rfl, HB⟩ := hcut
  clear r r0 r1 r2 r3 r4 r5 rz p p0 p1 p2 p3 p4 p5 pz S0 S1
  generalize (if k = 1 ∨ k = 2 then n else 0) = n' at HB RB
  generalize (if k = 3 then nm else ⟨#[]⟩) = nm' at HB RB
  have hx5 := HB.out.inn.q5
  go_wp2_with fail
  clear hx5
  go_loopw [31] (fun i wr => ∃ (j : Nat), j ≤ ks.length ∧ i = .int .i64 j ∧ Hid (BR w ⟨k, n, nm, st, lb, []⟩ (.slice a ks.length cap) ⟨k, n', nm', 0, 0, []⟩ (.slice none 0 0) [] wr)) (fun i _ => ks.length - (intOf i).toNat)
  case atStart => exact ⟨0, Nat.zero_le _, rfl, HB.out⟩
  case round =>
    clear HB
    obtain ⟨j, hj, rfl, HR⟩ := hrel
    by_cases hlt : j < ks.length
    · obtain ⟨kid, hkid⟩ : ∃ kid, ks[j]? = some kid := ⟨ks[j], List.getElem?_eq_getElem hlt⟩
      have hne : ks ≠ [] := by intro e; rw [e] at hlt; simp at hlt
      obtain ⟨g', b, o, hg, ha, hbB, hall⟩ := HL.out.at hne
      subst ha
      obtain ⟨a', cap', k0, k1, k2, k3, k4, k5, hkn, hkc, hkk⟩ := hall j kid hkid
      have hc : ∀ q, wr.cell? ⟨b, q, none⟩ = w.cell? ⟨b, q, none⟩ := fun q => HR.out.old.cell (p := ⟨b, q, none⟩) hbB
      have j0 := (hc _).trans k0
      have j1 := (hc _).trans k1
      have j2 := (hc _).trans k2
      have j3 := (hc _).trans k3
      have j4 := (hc _).trans k4
      have j5 := (hc _).trans k5
      have i0 := (HR.out.below ((Below.refl _ _).alloc (Nat.le_refl _) (.cells #[.int .i64 kid.kind, .int .i64 kid.n, .string kid.name, .int .i64 kid.stamp, .int .i64 kid.lib, .slice a' kid.kids.length cap'] 49))).inn.q0
      simp only at i0
      have REL := hidd (HR.out.below ((Below.refl _ _).alloc (Nat.le_refl _) (.cells #[.int .i64 kid.kind, .int .i64 kid.n, .string kid.name, .int .i64 kid.stamp, .int .i64 kid.lib, .slice a' kid.kids.length cap'] 49)))
      clear k0 k1 k2 k3 k4 k5 hall hkk hkid hc hg hkn hkc HL
      go_wp2_with fail
      go_roundw
      case rel => exact ⟨j + 1, by omega, by go_num, REL.out⟩
      case measure => simp [intOf]; omega
    · obtain rfl : j = ks.length := by omega
      have END := hidd (bare_end (k := k) (n := n') (nm := nm') (st := 0) (lb := 0) (ks := []) (f := 0) (a := none) (cap := 0) (len := 0) rfl HR.out.old HR.out.res rfl (Nat.le_refl _))
      obtain ⟨p, p0, p1, p2, p3, p4, p5, pz⟩ := HR.out.out
      obtain ⟨q, q0, q1, q2, q3, q4, q5, qz⟩ := HR.out.res
      simp only [zeroD, emS] at p0 p1 p2 p3 p4 p5 q0 q1 q2 q3 q4 q5
      go_wp2_with fail
      clear p p0 p1 p2 p3 p4 p5 pz q q0 q1 q2 q3 q4 q5 qz
      refine bodyPost_ret (ret33 END.out.1 rfl) rfl ?_
      rw [RB.out]
      exact END.out.2
/-- BARE, the document's own. -/
theorem RBare_any : ∀ (f : Nat) (d : Dat) (a : Option Addr) (cap : Nat) (w : World), Dn w f a d.kids → d.kids.length ≤ cap → smQ d → stQ d → Calls Tryd.prog 19 #[dv d a cap] w (ToldB (bareQ d) w) := by
  intro f
  induction f with
  | zero =>
    intro d a cap w hl hc hf hs
    by_cases h4 : d.kind = 4
    case neg => exact RBare_leaf 0 d a cap w h4 hl hc hs
    refine RBare_list 0 d a cap w h4 (Dc.upto hl 1) hf hs fun d' hd => ?_
    rw [show d.kids = [] from hl] at hd
    cases hd
  | succ f ih =>
    intro d a cap w hl hc hf hs
    by_cases h4 : d.kind = 4
    case neg => exact RBare_leaf (f + 1) d a cap w h4 hl hc hs
    exact RBare_list f d a cap w h4 hl hf hs fun d' hd a cap w h1 h2 h3 h4 => ih d' a cap w h1 h2 h3 h4
end Go.Proofs.YtdnbingddbakaaaDoor
