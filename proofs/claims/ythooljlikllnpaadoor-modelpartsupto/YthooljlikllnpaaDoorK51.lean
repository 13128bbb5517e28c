/- Chapter 7: WHERE A PART ENDS IS NO MATTER: the walk. -/
import Derived.Test.YthooljlikllnpaaDoorK50
import Derived.Test.YthooljlikllnpaaDoorK48
namespace Go.Proofs.YthooljlikllnpaaDoor
set_option linter.unusedVariables false
set_option linter.unusedSimpArgs false
open Go.RowKit

theorem own_base {w : World} {base base' size n : Nat} {e : TypeId} {v : Value} {xs : List Value} (h : w.ownsRow base e size v n xs) (hb : base' ≤ base) : w.ownsRow base' e size v n xs := by
  refine ⟨h.1, ?_⟩
  rcases h.2 with ⟨rfl, hn⟩ | ⟨g, cap, cur, hv, hbg, r⟩
  · exact Or.inl ⟨rfl, hn⟩
  · exact Or.inr ⟨g, cap, cur, hv, by omega, r⟩
theorem own_stay {w w' : World} {base size n : Nat} {e : TypeId} {v : Value} {xs : List Value} (h : w.ownsRow base e size v n xs) (hw : ∀ (k : Nat) (cs : Array Value), w.heap[k]? = some (.cells cs e (0, 0)) → w'.heap[k]? = some (.cells cs e (0, 0))) : w'.ownsRow base e size v n xs := by
  refine ⟨h.1, ?_⟩
  rcases h.2 with ⟨rfl, hn⟩ | ⟨g, cap, cur, hv, hbg, hg, r⟩
  · exact Or.inl ⟨rfl, hn⟩
  · exact Or.inr ⟨g, cap, cur, hv, hbg, hw g cur hg, r⟩
theorem own_src {w : World} {base : Nat} {v : Value} {es : List CE} {va : Option Addr} {n vc : Nat} (h : w.ownsRow base 45 12 v es.length (flatC es)) (hv : v = .slice va n vc) : es.length = 0 ∨ ∃ b o, va = some ⟨b, o, none⟩ ∧ b < w.heap.size ∧ ∀ j u, (flatC es)[j]? = some u → w.cell? ⟨b, o + j, none⟩ = some u := by
  by_cases h0 : es.length = 0
  · exact Or.inl h0
  · obtain ⟨g, vc', hv', _, _, hg, _, hc⟩ := own_at h (by omega)
    rw [hv] at hv'
    cases hv'
    exact Or.inr ⟨g, 0, rfl, hg, fun j u hu => by rw [Nat.zero_add]; exact hc j u hu⟩
/-- What the loop that joins the bodies keeps. -/
structure LJP (B F N : Nat) (ps : List (ByteArray × List Cor)) (w : World) (j : Nat) (es : List CE) (v : Value) (wr : World) : Prop where
  below : Below w.heap.size w wr
  hN : w.heap.size ≤ N
  box : wr.heap[N]? = some (.cells #[.string ⟨#[]⟩, v] 39 (0, 0))
  own : wr.ownsRow w.heap.size 45 12 v es.length (flatC es)
  map : es.map CE.c = bodies (ps.take j)
  ok : ∀ e ∈ es, ∃ F, e.Ok B F w
theorem okAll {B : Nat} {w : World} : ∀ (es : List CE), (∀ e ∈ es, ∃ F, e.Ok B F w) → ∃ F, ∀ e ∈ es, e.Ok B F w
  | [], _ => ⟨0, fun e he => by simp at he⟩
  | x :: r, h => by
    obtain ⟨F1, h1⟩ := h x (by simp)
    obtain ⟨F2, h2⟩ := okAll r (fun e he => h e (by simp [he]))
    refine ⟨F1 + F2, fun e he => ?_⟩
    rcases List.mem_cons.1 he with rfl | he
    · exact h1.upto F2
    · have := (h2 e he).upto F1
      rwa [Nat.add_comm] at this
theorem take_bodies (ps : List (ByteArray × List Cor)) (j : Nat) (nm : ByteArray) (b : List Cor) (h : ps[j]? = some (nm, b)) : bodies (ps.take (j + 1)) = bodies (ps.take j) ++ b := by
  obtain ⟨hi, e⟩ := List.getElem?_eq_some_iff.1 h
  rw [List.take_add_one, h]
  simp [bodies]
theorem take_len (ps : List (ByteArray × List Cor)) (j : Nat) : (bodies (ps.take j)).length ≤ (bodies ps).length := by
  have : bodies ps = bodies (ps.take j) ++ bodies (ps.drop j) := by
    unfold bodies
    rw [← List.flatMap_append, List.take_append_drop]
  rw [this, List.length_append]
  omega
set_option maxRecDepth 100000 in
set_option maxHeartbeats 6400000 in
theorem Parts_walk (T : Nat) (ps : List (ByteArray × List Cor)) (sa : Option Addr) (scap : Nat) (steps : Int) (w : World) (hp : PsV w.heap.size w sa ps) (tab : Tab T w) (hT : T ≤ w.heap.size) (hbk : (bodies ps).length ≤ 1048576) (hpl : ps.length ≤ 1048576) :
    Calls Tryd.prog 5 #[.slice sa ps.length scap, .int .i64 steps] w fun e w' => e = .returned (.bool true) ∧ Below w.heap.size w w' := by
  have HAL : Hid (Calls Tryd.prog 13 #[] w fun e w' => e = .returned (.bool true) ∧ Below w.heap.size w w') := alive_any T w tab hT
  have HR : Hid (∀ W, Below w.heap.size w W → Calls Tryd.prog 8 #[.slice sa ps.length scap, .int .i64 steps] W (ToldM W (modelR ps steps))) := fun W hb => RunPs_any w.heap.size T ps sa scap steps W (hp.below hb) hb.size (tab.below (hb.mono hT)) (Nat.le_trans hT hb.size)
  have HR1 : Hid (∀ W N6, Below w.heap.size w W → PsV W.heap.size W (some ⟨N6, 0, none⟩) [(⟨#[]⟩, bodies ps)] → Calls Tryd.prog 8 #[.slice (some ⟨N6, 0, none⟩) 1 1, .int .i64 steps] W (ToldM W (modelR [(⟨#[]⟩, bodies ps)] steps))) := fun W N6 hb h1 => RunPs_any W.heap.size T [(⟨#[]⟩, bodies ps)] (some ⟨N6, 0, none⟩) 1 steps W h1 (Nat.le_refl _) (tab.below (hb.mono hT)) (Nat.le_trans hT hb.size)
  have HP : Hid (∀ j nm b, ps[j]? = some (nm, b) → ∃ pb po, sa = some ⟨pb, po, none⟩ ∧ pb < w.heap.size ∧ w.cell? ⟨pb, po + j * 2, none⟩ = some (.string nm) ∧ ∃ a cap g, w.cell? ⟨pb, po + j * 2 + 1, none⟩ = some (.slice a b.length cap) ∧ Cc w.heap.size w g a b ∧ b.length ≤ cap) := fun j nm b hj => by
    rcases hp.2 with rfl | ⟨pb, po, h1, h2, h3⟩
    · simp at hj
    · obtain ⟨q1, a, cap, g, q2, q3, q4⟩ := h3 j nm b hj
      exact ⟨pb, po, h1, h2, q1, a, cap, g, q2, q3, q4⟩
  obtain ⟨i0, hinf, hz0, hz1, hz2⟩ := info_parts infoCore
  obtain ⟨n, hn'⟩ : ∃ n, n = ps.length := ⟨_, rfl⟩
  have HN := hidd hn'
  have HBK := hidd hbk
  rw [← hn'] at HR hpl ⊢
  clear hp tab hT hn' hbk
  go_enter Tryd.func5, Tryd.ntmps5
  go_wp2_with fail
  refine HAL.out.mono ?_
  rintro e w1 ⟨rfl, hb1⟩
  obtain ⟨N, hN⟩ : ∃ N, N = w1.heap.size := ⟨_, rfl⟩
  have HL0 : Hid (LJP w.heap.size 0 N ps w 0 [] (.slice none 0 0) (w1.alloc (.cells #[.string ⟨#[]⟩, .slice none 0 0] 39))) := ⟨hb1.alloc hb1.size _, by rw [hN]; exact hb1.size, by rw [hN]; exact World.alloc_heap_new w1 _, World.ownsRow_nil _ _ _ _, rfl, fun e he => by simp at he⟩
  have HNN := hidd hN
  clear hb1 HAL hN
  go_wp2_with fail
  rw [← HNN.out]
  clear HNN
  go_loopw [17] (fun ix wr => ∃ (j : Nat) (es : List CE) (v : Value), j ≤ n ∧ ix = .int .i64 j ∧ LJP w.heap.size 0 N ps w j es v wr) (fun ix _ => n - (intOf ix).toNat)
  case atStart => exact ⟨0, [], _, Nat.zero_le _, rfl, HL0.out⟩
  case round =>
    clear HL0
    obtain ⟨j, es, v, hj, rfl, hL⟩ := hrel
    have HL := hidd hL
    obtain ⟨va, vc, hv, hvc⟩ := own_slice hL.own
    subst hv
    obtain ⟨M, hM⟩ : ∃ M, M = es.length := ⟨_, rfl⟩
    have HML : Hid (es.length = M) := hM.symm
    have hM9 : M ≤ 1048576 := by
      have h1 := take_len ps j
      rw [← hL.map, List.length_map, ← hM] at h1
      have := HBK.out
      omega
    rw [← hM] at HL hvc
    clear hL hM
    by_cases hlt : j < n
    · obtain ⟨nm, b, hjp⟩ : ∃ nm b, ps[j]? = some (nm, b) := ⟨_, _, List.getElem?_eq_getElem (by rw [← HN.out]; exact hlt)⟩
      obtain ⟨pb, po, hsa, hpb, p0, a, cap, g, p1, hcc, hcap⟩ := HP.out j nm b hjp
      subst hsa
      have d0 := (HL.out.below.cell (p := ⟨pb, po + j * 2, none⟩) hpb).trans p0
      have d1 := (HL.out.below.cell (p := ⟨pb, po + j * 2 + 1, none⟩) hpb).trans p1
      obtain ⟨eb, heb, hokb, hsb⟩ := hcc.ents
      have hkl : eb.length = b.length := by rw [← heb, List.length_map]
      have hk9 : M + b.length ≤ 1048576 := by
        have h1 := take_len ps (j + 1)
        rw [take_bodies ps j nm b hjp, List.length_append, ← HL.out.map, List.length_map, HML.out] at h1
        have := HBK.out
        omega
      obtain ⟨k, hk⟩ : ∃ k, k = b.length := ⟨_, rfl⟩
      have HKL : Hid (eb.length = k) := hkl.trans hk.symm
      rw [← hk] at d1 hk9 hcap
      obtain ⟨W0, hW0⟩ : ∃ W0, W0 = wr.alloc (.cells #[.string nm, .slice a k cap] 39) := ⟨_, rfl⟩
      obtain ⟨Nb, hNb⟩ : ∃ Nb, Nb = wr.heap.size := ⟨_, rfl⟩
      have hb0 : Below wr.heap.size wr W0 := by rw [hW0]; exact (Below.refl _ _).alloc (Nat.le_refl _) _
      have hbx : W0.heap[Nb]? = some (.cells #[.string nm, .slice a k cap] 39 (0, 0)) := by rw [hW0, hNb]; exact World.alloc_heap_new wr _
      have hN0 : W0.heap[N]? = some (.cells #[.string ⟨#[]⟩, .slice va M vc] 39 (0, 0)) := (hb0.block N (Array.getElem?_eq_some_iff.1 HL.out.box).1).trans HL.out.box
      have hNlt : N < Nb := by rw [hNb]; exact (Array.getElem?_eq_some_iff.1 HL.out.box).1
      have hBw : Below w.heap.size w W0 := HL.out.below.trans (hb0.mono HL.out.below.size)
      have HX : Hid (∀ W, Below W0.heap.size W0 W → W.cell? ⟨N, 1, none⟩ = some (.slice va M vc) ∧ W.cell? ⟨Nb, 1, none⟩ = some (.slice a k cap)) := fun W hb => ⟨(cellO ((hb.block N (Array.getElem?_eq_some_iff.1 hN0).1).trans hN0)).trans rfl, (cellO ((hb.block Nb (Array.getElem?_eq_some_iff.1 hbx).1).trans hbx)).trans rfl⟩
      have HF : Hid (∀ W, Below W0.heap.size W0 W → W.frozen? ⟨N, 1, none⟩ = false) := fun W hb => looseO ((hb.block N (Array.getElem?_eq_some_iff.1 hN0).1).trans hN0)
      have HSRC : Hid (∀ W, Below W0.heap.size W0 W → M = 0 ∨ ∃ b o, va = some ⟨b, o, none⟩ ∧ ∀ j u, (flatC es)[j]? = some u → W.cell? ⟨b, o + j, none⟩ = some u) := fun W hb => by
        rcases own_src HL.out.own rfl with h | ⟨b', o', h1, h2, h3⟩
        · exact Or.inl (HML.out.symm.trans h)
        · exact Or.inr ⟨b', o', h1, fun q u hu => ((hb0.trans (hb.mono hb0.size)).cell (p := ⟨b', o' + q, none⟩) h2).trans (h3 q u hu)⟩
      have HSRB : Hid (∀ W, Below W0.heap.size W0 W → k = 0 ∨ ∃ b o, a = some ⟨b, o, none⟩ ∧ ∀ j u, (flatC eb)[j]? = some u → W.cell? ⟨b, o + j, none⟩ = some u) := fun W hb => by
        rcases hsb with h | ⟨b', o', h1, h2, h3⟩
        · exact Or.inl (HKL.out.symm.trans h)
        · exact Or.inr ⟨b', o', h1, fun q u hu => ((hBw.trans (hb.mono hBw.size)).cell (p := ⟨b', o' + q, none⟩) h2).trans (h3 q u hu)⟩
      have HNEXT : Hid (∀ w4 v4, Below W0.heap.size W0 w4 → w4.ownsRow W0.heap.size 45 12 v4 (0 + M + k) (flatC es ++ flatC eb) → (w4.setCell ⟨N, 1, none⟩ v4).cell? ⟨Nb, 1, none⟩ = some (.slice a k cap) ∧ LJP w.heap.size 0 N ps w (j + 1) (es ++ eb) v4 (w4.setCell ⟨N, 1, none⟩ v4)) := fun w4 v4 hb hown => by
        have hbx4 := (hb.block Nb (Array.getElem?_eq_some_iff.1 hbx).1).trans hbx
        have hN4 := (hb.block N (Array.getElem?_eq_some_iff.1 hN0).1).trans hN0
        have hne : ∀ q, q ≠ N → (w4.setCell ⟨N, 1, none⟩ v4).heap[q]? = w4.heap[q]? := fun q hq => Below.heap_setCell _ _ _ _ (by simpa using hq)
        refine ⟨(cellO ((hne Nb (by omega)).trans hbx4)).trans rfl, (hBw.trans (hb.mono hBw.size)).setCell (p := ⟨N, 1, none⟩) HL.out.hN _, HL.out.hN, cell_setV hN4 _, ?_, ?_, ?_⟩
        · have h1 : w4.ownsRow w.heap.size 45 12 v4 (es ++ eb).length (flatC (es ++ eb)) := by
            rw [flatC_append, List.length_append, HML.out, HKL.out]
            rw [Nat.zero_add] at hown
            exact own_base hown hBw.size
          exact own_stay h1 (fun q cs hq => (hne q (ne_type hN4 hq (by decide))).trans hq)
        · rw [List.map_append, HL.out.map, heb, take_bodies ps j nm b hjp]
        · intro e he
          rcases List.mem_append.1 he with he | he
          · exact HL.out.ok e he
          · exact ⟨_, hokb e he⟩
      have HS_0 : Hid (Below W0.heap.size W0 W0.drew) := Below.drew (Below.refl _ _)
      have hw0 := hW0.symm
      have hNb' := hNb.symm
      clear p0 p1 hcc hsb hokb heb hkl hb0 hbx hN0 hBw HP hjp hW0 hNb hk
      go_wp2_with fail
      refine wp_region_held_drew (S := fun u => u.cell? ⟨Nb, 1, none⟩ = some (.slice a k cap)) (by kernel_rfl) (HX.out _ (Below.drew (Below.refl _ _))).2 (fun hS => ?_)
      refine wpAnyH_take (i := 1) (oi := { dst := some 22, op := Op.fieldAddr 39 (Operand.tmp 5) 1, type := 0, pos := _, after := _, guard := none }) (v := .pointer (some ⟨N, 1, none⟩)) rfl (by kernel_rfl) (by kernel_rfl) (by kernel_rfl) (fun _ _ _ h => h) (Or.inl ⟨by rfl, fun u hu => by go_simp⟩) hS ?_
      simp only [Act.put, List.setIfInBounds_toArray, List.set_cons_zero, List.set_cons_succ]
      refine wpAnyH_take (i := 4) (oi := { dst := some 25, op := Op.fieldAddr 39 (Operand.tmp 7) 1, type := 0, pos := _, after := _, guard := none }) (v := .pointer (some ⟨Nb, 1, none⟩)) rfl (by kernel_rfl) (by kernel_rfl) (by kernel_rfl) (fun _ _ _ h => h) (Or.inl ⟨by rfl, fun u hu => by go_simp⟩) hS ?_
      simp only [Act.put, List.setIfInBounds_toArray, List.set_cons_zero, List.set_cons_succ]
      refine wpAnyH_take (i := 5) (oi := { dst := some 26, op := Op.load 37 (Operand.tmp 25), type := 37, pos := _, after := _, guard := none }) (v := .slice a k cap) rfl (by kernel_rfl) (by kernel_rfl) (by kernel_rfl) (fun _ _ _ h => h) (Or.inl ⟨by rfl, fun u hu => by (have z := hu; go_simp)⟩) hS ?_
      simp only [Act.put, List.setIfInBounds_toArray, List.set_cons_zero, List.set_cons_succ]
      refine wpAnyH_ready (rs := [0, 2]) (by kernel_rfl) (by simp) (AllReadyH.cons (o := { dst := some 21, op := Op.buildSlice 37 0 #[], type := 37, pos := _, after := _, guard := none }) rfl (fun K hK => ?_) (AllReadyH.cons (o := { dst := some 23, op := Op.load 37 (Operand.tmp 22), type := 37, pos := _, after := _, guard := none }) rfl (fun K hK => ?_) AllReadyH.nil))
      · go_simp
        have hb_A : Below W0.heap.size W0 (W0.alloc (.cells #[] 45)).drew := Below.drew ((Below.refl _ _).alloc (Nat.le_refl _) _)
        have HS_A := hidd hb_A
        have OWN_A : Hid ((W0.alloc (.cells #[] 45)).drew.ownsRow W0.heap.size 45 12 (.slice (some ⟨W0.heap.size, 0, none⟩) 0 0) 0 []) := own_fresh W0 45 12
        refine hK.out _ _ (HX.out _ hb_A).2 (fun hS => ?_)
        clear hK K hb_A
        refine wpAnyH_ready (rs := [2]) (by kernel_rfl) (by simp) (AllReadyH.cons (o := { dst := some 23, op := Op.load 37 (Operand.tmp 22), type := 37, pos := _, after := _, guard := none }) rfl (fun K hK => ?_) AllReadyH.nil)
        have z2 := (HX.out _ HS_A.out).1
        go_simp
        refine hK.out _ _ hS (fun hS => ?_)
        clear hK K z2
        refine wpAnyH_ready (rs := [3]) (by kernel_rfl) (by simp) (AllReadyH.cons (o := { dst := some 24, op := Op.call { callee := Callee.builtin Builtin.append, args := #[Operand.tmp 21, Operand.tmp 23], argTypes := #[37, 37] }, type := 37, pos := _, after := _, guard := none }) rfl (fun K hK => ?_) AllReadyH.nil)
        refine step_row rfl (.tmp 21) (.tmp 23) 37 rfl W0.heap.size 45 i0 _ 12 152 Tryd.underlying37 hinf hz0 hz1 hz2 rfl (by decide) (.slice (some ⟨W0.heap.size, 0, none⟩) 0 0) 0 [] rfl (by exact OWN_A.out) va M vc (flatC es) rfl (by rw [flatC_len, HML.out]) (by exact HSRC.out _ HS_A.out) (flatC_one _) (by unfold maxLen; omega) (by omega) (by simp) ?_
        intro v3 w3 hown3 hg3 hw3
        have hb3 : Below W0.heap.size W0 w3 := HS_A.out.trans ((Below.refl W0.heap.size _).grown hg3 HS_A.out.size (fun q hq => by simp [Value.ownBlock] at hq; omega))
        have HS_3 := hidd hb3
        have OWN3 := hidd (hown3)
        obtain ⟨s3, c3, hv3, hc3⟩ := own_slice hown3
        subst hv3
        clear hown3 hg3 hw3 hc3
        try simp only [Act.put, List.setIfInBounds_toArray, List.set_cons_succ, List.set_cons_zero]
        refine hK.out _ _ (HX.out _ hb3).2 (fun hS => ?_)
        clear hK K hb3
        refine wpAnyH_ready (rs := [6]) (by kernel_rfl) (by simp) (AllReadyH.cons (o := { dst := some 27, op := Op.call { callee := Callee.builtin Builtin.append, args := #[Operand.tmp 24, Operand.tmp 26], argTypes := #[37, 37] }, type := 37, pos := _, after := _, guard := none }) rfl (fun K hK => ?_) AllReadyH.nil)
        refine step_row rfl (.tmp 24) (.tmp 26) 37 rfl W0.heap.size 45 i0 _ 12 152 Tryd.underlying37 hinf hz0 hz1 hz2 rfl (by decide) (.slice s3 (0 + M) c3) (0 + M) (flatC es) rfl (by exact OWN3.out) a k cap (flatC eb) rfl (by rw [flatC_len, HKL.out]) (by exact HSRB.out _ HS_3.out) (flatC_one _) (by unfold maxLen; omega) (by omega) HS_3.out.size ?_
        intro v4 w4 hown4 hg4 hw4
        have hb4 : Below W0.heap.size W0 w4 := HS_3.out.trans ((Below.refl W0.heap.size _).grown hg4 HS_3.out.size (fun q hq => (OWN3.out.lt q hq).1))
        have HS_4 := hidd hb4
        obtain ⟨s4, c4, hv4, hc4⟩ := own_slice hown4
        subst hv4
        have OWN4 := hidd hown4
        clear hown4 hg4 hw4 hc4
        try simp only [Act.put, List.setIfInBounds_toArray, List.set_cons_succ, List.set_cons_zero]
        refine hK.out _ _ (HX.out _ hb4).2 (fun hS => ?_)
        clear hK K hb4
        refine wpAnyH_take (i := 7) (oi := { dst := some 28, op := Op.fieldAddr 39 (Operand.tmp 5) 1, type := 0, pos := _, after := _, guard := none }) (v := .pointer (some ⟨N, 1, none⟩)) rfl (by kernel_rfl) (by kernel_rfl) (by kernel_rfl) (fun _ _ _ h => h) (Or.inl ⟨by rfl, fun u hu => by go_simp⟩) hS ?_
        simp only [Act.put, List.setIfInBounds_toArray, List.set_cons_zero, List.set_cons_succ]
        refine wpAnyH_ready (rs := [8]) (by kernel_rfl) (by simp) (AllReadyH.cons (o := { dst := none, op := Op.store 37 (Operand.tmp 28) (Operand.tmp 27), type := 0, pos := _, after := _, guard := none }) rfl (fun K hK => ?_) AllReadyH.nil)
        have z8 := (HX.out _ HS_4.out).1
        have f8 := HF.out _ HS_4.out
        go_simp
        have HN8 := hidd (HNEXT.out w4 _ HS_4.out OWN4.out)
        rw [Nat.zero_add] at HN8
        refine hK.out _ _ HN8.out.1 (fun hS => ?_)
        clear hK K z8 f8
        refine wpAnyH_done (by kernel_rfl) ?_ _
        clear hS
        go_wp2_with fail
        go_roundw
        case rel => exact ⟨j + 1, es ++ eb, _, hlt, by go_num, HN8.out.2⟩
        case measure => simp [intOf]; omega
      · have z2 := (HX.out _ HS_0.out).1
        go_simp
        refine hK.out _ _ hS (fun hS => ?_)
        clear hK K z2
        refine wpAnyH_ready (rs := [0]) (by kernel_rfl) (by simp) (AllReadyH.cons (o := { dst := some 21, op := Op.buildSlice 37 0 #[], type := 37, pos := _, after := _, guard := none }) rfl (fun K hK => ?_) AllReadyH.nil)
        go_simp
        have hb_A : Below W0.heap.size W0 (W0.alloc (.cells #[] 45)).drew := Below.drew ((Below.refl _ _).alloc (Nat.le_refl _) _)
        have HS_A := hidd hb_A
        have OWN_A : Hid ((W0.alloc (.cells #[] 45)).drew.ownsRow W0.heap.size 45 12 (.slice (some ⟨W0.heap.size, 0, none⟩) 0 0) 0 []) := own_fresh W0 45 12
        refine hK.out _ _ (HX.out _ hb_A).2 (fun hS => ?_)
        clear hK K hb_A
        refine wpAnyH_ready (rs := [3]) (by kernel_rfl) (by simp) (AllReadyH.cons (o := { dst := some 24, op := Op.call { callee := Callee.builtin Builtin.append, args := #[Operand.tmp 21, Operand.tmp 23], argTypes := #[37, 37] }, type := 37, pos := _, after := _, guard := none }) rfl (fun K hK => ?_) AllReadyH.nil)
        refine step_row rfl (.tmp 21) (.tmp 23) 37 rfl W0.heap.size 45 i0 _ 12 152 Tryd.underlying37 hinf hz0 hz1 hz2 rfl (by decide) (.slice (some ⟨W0.heap.size, 0, none⟩) 0 0) 0 [] rfl (by exact OWN_A.out) va M vc (flatC es) rfl (by rw [flatC_len, HML.out]) (by exact HSRC.out _ HS_A.out) (flatC_one _) (by unfold maxLen; omega) (by omega) (by simp) ?_
        intro v3 w3 hown3 hg3 hw3
        have hb3 : Below W0.heap.size W0 w3 := HS_A.out.trans ((Below.refl W0.heap.size _).grown hg3 HS_A.out.size (fun q hq => by simp [Value.ownBlock] at hq; omega))
        have HS_3 := hidd hb3
        have OWN3 := hidd (hown3)
        obtain ⟨s3, c3, hv3, hc3⟩ := own_slice hown3
        subst hv3
        clear hown3 hg3 hw3 hc3
        try simp only [Act.put, List.setIfInBounds_toArray, List.set_cons_succ, List.set_cons_zero]
        refine hK.out _ _ (HX.out _ hb3).2 (fun hS => ?_)
        clear hK K hb3
        refine wpAnyH_ready (rs := [6]) (by kernel_rfl) (by simp) (AllReadyH.cons (o := { dst := some 27, op := Op.call { callee := Callee.builtin Builtin.append, args := #[Operand.tmp 24, Operand.tmp 26], argTypes := #[37, 37] }, type := 37, pos := _, after := _, guard := none }) rfl (fun K hK => ?_) AllReadyH.nil)
        refine step_row rfl (.tmp 24) (.tmp 26) 37 rfl W0.heap.size 45 i0 _ 12 152 Tryd.underlying37 hinf hz0 hz1 hz2 rfl (by decide) (.slice s3 (0 + M) c3) (0 + M) (flatC es) rfl (by exact OWN3.out) a k cap (flatC eb) rfl (by rw [flatC_len, HKL.out]) (by exact HSRB.out _ HS_3.out) (flatC_one _) (by unfold maxLen; omega) (by omega) HS_3.out.size ?_
        intro v4 w4 hown4 hg4 hw4
        have hb4 : Below W0.heap.size W0 w4 := HS_3.out.trans ((Below.refl W0.heap.size _).grown hg4 HS_3.out.size (fun q hq => (OWN3.out.lt q hq).1))
        have HS_4 := hidd hb4
        obtain ⟨s4, c4, hv4, hc4⟩ := own_slice hown4
        subst hv4
        have OWN4 := hidd hown4
        clear hown4 hg4 hw4 hc4
        try simp only [Act.put, List.setIfInBounds_toArray, List.set_cons_succ, List.set_cons_zero]
        refine hK.out _ _ (HX.out _ hb4).2 (fun hS => ?_)
        clear hK K hb4
        refine wpAnyH_take (i := 7) (oi := { dst := some 28, op := Op.fieldAddr 39 (Operand.tmp 5) 1, type := 0, pos := _, after := _, guard := none }) (v := .pointer (some ⟨N, 1, none⟩)) rfl (by kernel_rfl) (by kernel_rfl) (by kernel_rfl) (fun _ _ _ h => h) (Or.inl ⟨by rfl, fun u hu => by go_simp⟩) hS ?_
        simp only [Act.put, List.setIfInBounds_toArray, List.set_cons_zero, List.set_cons_succ]
        refine wpAnyH_ready (rs := [8]) (by kernel_rfl) (by simp) (AllReadyH.cons (o := { dst := none, op := Op.store 37 (Operand.tmp 28) (Operand.tmp 27), type := 0, pos := _, after := _, guard := none }) rfl (fun K hK => ?_) AllReadyH.nil)
        have z8 := (HX.out _ HS_4.out).1
        have f8 := HF.out _ HS_4.out
        go_simp
        have HN8 := hidd (HNEXT.out w4 _ HS_4.out OWN4.out)
        rw [Nat.zero_add] at HN8
        refine hK.out _ _ HN8.out.1 (fun hS => ?_)
        clear hK K z8 f8
        refine wpAnyH_done (by kernel_rfl) ?_ _
        clear hS
        go_wp2_with fail
        go_roundw
        case rel => exact ⟨j + 1, es ++ eb, _, hlt, by go_num, HN8.out.2⟩
        case measure => simp [intOf]; omega
    · obtain rfl : j = n := by omega
      have HM : Hid (es.map CE.c = bodies ps) := by
        have := HL.out.map
        rw [List.take_of_length_le (by rw [← HN.out]; exact Nat.le_refl _)] at this
        exact this
      have e1 : wr.cell? ⟨N, 1, none⟩ = some (.slice va M vc) := (cellO HL.out.box).trans rfl
      have e0 : wr.cell? ⟨N, 0, none⟩ = some (.string ⟨#[]⟩) := (cellO HL.out.box).trans rfl
      have HBL : Hid ((bodies ps).length = M) := by
        show _ = _
        rw [← HM.out, List.length_map, HML.out]
      clear HP
      by_cases h200 : 200 < M
      · have f1 : decide ((M : Int) > 200) = true := by simp; omega
        have f1' : decide ((200 : Int) < (M : Int)) = true := by simp; omega
        have HB := hidd HL.out.below
        go_wp2_with fail
        go_ret
        exact ⟨rfl, HB.out⟩
      have f1 : decide ((M : Int) > 200) = false := by simp; omega
      have f1' : decide ((200 : Int) < (M : Int)) = false := by simp; omega
      by_cases h40 : 40 < j
      · have f2 : decide ((j : Int) > 40) = true := by simp; omega
        have f2' : decide ((40 : Int) < (j : Int)) = true := by simp; omega
        have HB := hidd HL.out.below
        go_wp2_with fail
        go_ret
        exact ⟨rfl, HB.out⟩
      have f2 : decide ((j : Int) > 40) = false := by simp; omega
      have f2' : decide ((40 : Int) < (j : Int)) = false := by simp; omega
      obtain ⟨hm1, hm2⟩ := model_parts ps ⟨#[]⟩ steps (by rw [← HN.out]; omega) (by rw [HBL.out]; omega)
      cases hR1 : modelR ps steps with
      | mk q1 z1 =>
      cases hR2 : modelR [(⟨#[]⟩, bodies ps)] steps with
      | mk q2 z2 =>
      rw [hR1] at HR hm1 hm2
      rw [hR2] at HR1 hm1 hm2
      simp only at hm1 hm2
      subst hm1
      obtain ⟨h1, o1⟩ := q2
      obtain ⟨x, y⟩ := z1
      obtain ⟨x', y'⟩ := z2
      simp only at hm2
      subst hm2
      have HC1 := hidd (HR.out wr HL.out.below)
      unfold ToldM fv at HC1 HR1
      simp only at HC1 HR1
      clear hR1 hR2 HR
      go_wp2_with fail
      refine HC1.out.mono ?_
      rintro e w2 ⟨hb2, ra, rn, rc, rfl, ht1, hl1⟩
      obtain ⟨W3, hW3⟩ : ∃ W3, W3 = (w2.alloc (.cells #[.int .i64 h1, .slice ra rn rc] 25)).alloc (.cells #[.int .i64 x', .int .i64 y] 28) := ⟨_, rfl⟩
      obtain ⟨g1, g2, g3⟩ := boxes2 w2 #[.int .i64 h1, .slice ra rn rc] #[.int .i64 x', .int .i64 y] 25 28
      rw [← hW3] at g1 g2 g3
      have hb3 : Below wr.heap.size wr W3 := hb2.trans (g1.mono hb2.size)
      have hbx3 := (hb3.block N (Array.getElem?_eq_some_iff.1 HL.out.box).1).trans HL.out.box
      have k0 : W3.cell? ⟨N, 0, none⟩ = some (.string ⟨#[]⟩) := (cellO hbx3).trans rfl
      have k1 : W3.cell? ⟨N, 1, none⟩ = some (.slice va M vc) := (cellO hbx3).trans rfl
      obtain ⟨W4, hW4⟩ : ∃ W4, W4 = W3.alloc (.cells #[.string ⟨#[]⟩, .slice va M vc] 39) := ⟨_, rfl⟩
      have hb34 : Below W3.heap.size W3 W4 := by rw [hW4]; exact (Below.refl _ _).alloc (Nat.le_refl _) _
      have hb4 : Below wr.heap.size wr W4 := hb3.trans (hb34.mono hb3.size)
      have hbw4 : Below w.heap.size w W4 := HL.out.below.trans (hb4.mono HL.out.below.size)
      have hnew : W4.heap[W3.heap.size]? = some (.cells #[.string ⟨#[]⟩, .slice va M vc] 39 (0, 0)) := by rw [hW4]; exact World.alloc_heap_new W3 _
      have hown4 : W4.ownsRow w.heap.size 45 12 (.slice va M vc) es.length (flatC es) := own_stay HL.out.own (fun q cs hq => (hb4.block q (Array.getElem?_eq_some_iff.1 hq).1).trans hq)
      obtain ⟨F, hF⟩ := okAll es HL.out.ok
      obtain ⟨xa, xc, hv4, hxc, hcc⟩ := Cc.of_row (B' := w.heap.size) (F := F) hown4 (fun e he => (hF e he).stay (fun q hq => hbw4.block q hq)) hbw4.size (by rw [HML.out]; omega)
      rw [HM.out] at hv4 hxc hcc
      have hps : PsV W4.heap.size W4 (some ⟨W3.heap.size, 0, none⟩) [(⟨#[]⟩, bodies ps)] := by
        refine ⟨by simp, Or.inr ⟨W3.heap.size, 0, rfl, (Array.getElem?_eq_some_iff.1 hnew).1, fun i nm b hi => ?_⟩⟩
        match i, hi with
        | 0, hi =>
          simp at hi
          obtain ⟨rfl, rfl⟩ := hi
          exact ⟨(cellO hnew).trans rfl, xa, xc, _, by rw [← hv4]; exact (cellO hnew).trans rfl, hcc, hxc⟩
        | i + 1, hi => simp at hi
      have HC2 := hidd (HR1.out W4 W3.heap.size hbw4 hps)
      have m1 := (hb34.block _ (Array.getElem?_eq_some_iff.1 g2).1).trans g2
      have m2 := (hb34.block _ (Array.getElem?_eq_some_iff.1 g3).1).trans g3
      have HG : Hid (W4.heap[w2.heap.size]? = some (.cells #[.int .i64 h1, .slice ra rn rc] 25 (0, 0)) ∧ W4.heap[w2.heap.size + 1]? = some (.cells #[.int .i64 x', .int .i64 y] 28 (0, 0)) ∧ TM o1 ra rn rc W4 ∧ o1.length ≤ maxLen ∧ Below w.heap.size w W4) := ⟨m1, m2, ht1.up (g1.trans (hb34.mono g1.size)), hl1, hbw4⟩
      have hw3 := hW3.symm
      have hw4 := hW4.symm
      clear hb2 hb3 g1 g2 g3 ht1 hl1 hW3 hW4 hbx3 hb34 hb4 hbw4 hnew hown4 hF hv4 hxc hcc hps m1 m2 HR1 HC1 HM HBL HL
      go_wp2_with fail
      refine HC2.out.mono ?_
      rintro e w5 ⟨hb5, a2, n2, c2, rfl, ht2, hl2⟩
      obtain ⟨W6, hW6⟩ : ∃ W6, W6 = (w5.alloc (.cells #[.int .i64 h1, .slice a2 n2 c2] 25)).alloc (.cells #[.int .i64 x', .int .i64 y'] 28) := ⟨_, rfl⟩
      obtain ⟨g1, g2, g3⟩ := boxes2 w5 #[.int .i64 h1, .slice a2 n2 c2] #[.int .i64 x', .int .i64 y'] 25 28
      rw [← hW6] at g1 g2 g3
      have hb6 : Below W4.heap.size W4 W6 := hb5.trans (g1.mono hb5.size)
      obtain ⟨t1, t2, t3, t4, t5⟩ := HG.out
      have m1 := (hb6.block _ (Array.getElem?_eq_some_iff.1 t1).1).trans t1
      have m2 := (hb6.block _ (Array.getElem?_eq_some_iff.1 t2).1).trans t2
      have e10 : W6.cell? ⟨w2.heap.size, 0, none⟩ = some (.int .i64 h1) := (cellO m1).trans rfl
      have e11 : W6.cell? ⟨w2.heap.size, 1, none⟩ = some (.slice ra rn rc) := (cellO m1).trans rfl
      have e20 : W6.cell? ⟨w2.heap.size + 1, 0, none⟩ = some (.int .i64 x') := (cellO m2).trans rfl
      have e30 : W6.cell? ⟨w5.heap.size, 0, none⟩ = some (.int .i64 h1) := (cellO g2).trans rfl
      have e31 : W6.cell? ⟨w5.heap.size, 1, none⟩ = some (.slice a2 n2 c2) := (cellO g2).trans rfl
      have e40 : W6.cell? ⟨w5.heap.size + 1, 0, none⟩ = some (.int .i64 x') := (cellO g3).trans rfl
      have HSM : Hid (Calls Tryd.prog 12 #[.agg #[.int .i64 h1, .slice ra rn rc], .agg #[.int .i64 h1, .slice a2 n2 c2]] W6 fun e w' => e = .returned (.bool true) ∧ Below W6.heap.size W6 w') := Same_how h1 o1 ra a2 rn n2 rc c2 W6 t4 (t3.up hb6) (ht2.up g1)
      have HB6 : Hid (Below w.heap.size w W6) := t5.trans (hb6.mono t5.size)
      have hw6 := hW6.symm
      clear hb5 g1 g2 g3 ht2 hl2 hW6 hb6 t1 t2 t3 t4 t5 m1 m2 HG HC2
      go_wp2_with fail
      refine HSM.out.mono ?_
      rintro e w7 ⟨rfl, hb7⟩
      have HB7 : Hid (Below w.heap.size w w7) := HB6.out.trans (hb7.mono HB6.out.size)
      clear hb7
      go_wp2_with fail
      go_ret
      exact ⟨rfl, HB7.out⟩
end Go.Proofs.YthooljlikllnpaaDoor
