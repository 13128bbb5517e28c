/- Chapter 10: how all globals are used. -/
import Derived.Test.YtdnbingddbakaaaDoorK31
namespace Go.Proofs.YtdnbingddbakaaaDoor
set_option linter.unusedVariables false
set_option linter.unusedSimpArgs false
open Go.RowKit

set_option maxRecDepth 100000 in
set_option maxHeartbeats 6400000 in
theorem use33_any (B t m : Nat) (gs : List Gl) (bv : Value) (x : In) (b o : Nat) (qa : Option Addr) (qc : Nat) (nm : ByteArray) (ub uo b1 b2 : Nat) (w : World) (hil : IL B w b o x qa qc) (hb : b < B) (hT : TB B t m gs bv w)
    (h1 : w.heap[b1]? = some (.cells #[.pointer (some ⟨ub, uo, none⟩)] 69 (0, 0))) (h2 : w.heap[b2]? = some (.cells #[.pointer (some ⟨t, 0, none⟩)] 67 (0, 0))) (hub : ub < B) (hu0 : w.cell? ⟨ub, uo, none⟩ = some (.string nm)) :
    Calls Tryd.prog 33 #[.pointer (some ⟨b, o, none⟩), .pointer (some ⟨b2, 0, none⟩), .pointer (some ⟨b1, 0, none⟩)] w fun e w' => e = .returned (.int .i64 (useE gs nm x)) ∧ Below w.heap.size w w' := by
  have hBw : B ≤ w.heap.size := Nat.le_trans hT.bt (Nat.le_of_lt (Array.getElem?_eq_some_iff.1 hT.tb).1)
  have U34 := hidd (fun u (hu : Below w.heap.size w u) => use34_any B t m gs bv x b o qa qc nm u (hil.below hb (hu.mono hBw)) hb (hT.below hu))
  generalize useE gs nm x = y at U34 ⊢
  have r1 : w.cell? ⟨b1, 0, none⟩ = some (.pointer (some ⟨ub, uo, none⟩)) := (cellO h1).trans rfl
  have r2 : w.cell? ⟨b2, 0, none⟩ = some (.pointer (some ⟨t, 0, none⟩)) := (cellO h2).trans rfl
  have hb1w := (Array.getElem?_eq_some_iff.1 h1).1
  have hb2w := (Array.getElem?_eq_some_iff.1 h2).1
  have hubw : ub < w.heap.size := Nat.lt_of_lt_of_le hub hBw
  clear hil hT h1 h2
  go_enter Tryd.func33, Tryd.ntmps33
  go_upto_region 1 with fail
  refine wp_region_held_drew (S := fun u => Below w.heap.size w u) (by kernel_rfl) (Below.drew (Below.refl _ _)) (fun hS => ?_)
  refine wpAnyH_take (i := 0) (oi := { dst := some 5, op := Op.load 67 (Operand.tmp 1), type := 67, pos := _, after := _, guard := none }) (v := .pointer (some ⟨t, 0, none⟩)) rfl (by kernel_rfl) (by kernel_rfl) (by kernel_rfl) (fun _ _ _ h => h) (Or.inl ⟨by rfl, fun u hu => by (have z := (hu.cell (p := ⟨b2, 0, none⟩) hb2w).trans r2; go_simp)⟩) hS ?_
  simp only [Act.put, List.setIfInBounds_toArray, List.set_cons_zero, List.set_cons_succ]
  refine wpAnyH_take (i := 1) (oi := { dst := some 6, op := Op.load 69 (Operand.tmp 2), type := 69, pos := _, after := _, guard := none }) (v := .pointer (some ⟨ub, uo, none⟩)) rfl (by kernel_rfl) (by kernel_rfl) (by kernel_rfl) (fun _ _ _ h => h) (Or.inl ⟨by rfl, fun u hu => by (have z := (hu.cell (p := ⟨b1, 0, none⟩) hb1w).trans r1; go_simp)⟩) hS ?_
  simp only [Act.put, List.setIfInBounds_toArray, List.set_cons_zero, List.set_cons_succ]
  refine wpAnyH_take (i := 2) (oi := { dst := some 7, op := Op.nilCheck (Operand.tmp 6), type := 0, pos := _, after := _, guard := none }) (v := .pointer (some ⟨ub, uo, none⟩)) rfl (by kernel_rfl) (by kernel_rfl) (by kernel_rfl) (fun _ _ _ h => h) (Or.inl ⟨by rfl, fun u hu => by go_simp⟩) hS ?_
  simp only [Act.put, List.setIfInBounds_toArray, List.set_cons_zero, List.set_cons_succ]
  refine wpAnyH_take (i := 3) (oi := { dst := some 8, op := Op.fieldAddr 37 (Operand.tmp 7) 0, type := 0, pos := _, after := _, guard := none }) (v := .pointer (some ⟨ub, uo, none⟩)) rfl (by kernel_rfl) (by kernel_rfl) (by kernel_rfl) (fun _ _ _ h => h) (Or.inl ⟨by rfl, fun u hu => by go_simp⟩) hS ?_
  simp only [Act.put, List.setIfInBounds_toArray, List.set_cons_zero, List.set_cons_succ]
  refine wpAnyH_take (i := 4) (oi := { dst := some 9, op := Op.load 9 (Operand.tmp 8), type := 9, pos := _, after := _, guard := none }) (v := .string nm) rfl (by kernel_rfl) (by kernel_rfl) (by kernel_rfl) (fun _ _ _ h => h) (Or.inl ⟨by rfl, fun u hu => by (have z := (hu.cell (p := ⟨ub, uo, none⟩) hubw).trans hu0; go_simp)⟩) hS ?_
  simp only [Act.put, List.setIfInBounds_toArray, List.set_cons_zero, List.set_cons_succ]
  refine wpAnyH_take (i := 5) (oi := { dst := some 10, op := Op.move (Operand.tmp 0), type := 72, pos := _, after := _, guard := none }) (v := .pointer (some ⟨b, o, none⟩)) rfl (by kernel_rfl) (by kernel_rfl) (by kernel_rfl) (fun _ _ _ h => h) (Or.inl ⟨by rfl, fun u hu => by go_simp⟩) hS ?_
  simp only [Act.put, List.setIfInBounds_toArray, List.set_cons_zero, List.set_cons_succ]
  refine wpAnyH_ready (rs := [6]) (by kernel_rfl) (by simp) (AllReadyH.cons (o := { dst := some 11, op := Op.call { callee := Callee.value (Operand.func 34), args := #[Operand.tmp 5, Operand.tmp 9, Operand.tmp 10], argTypes := #[67, 9, 72] }, type := 28, pos := _, after := _, guard := none }) rfl (fun K hK => ?_) AllReadyH.nil)
  go_simp
  refine (U34.out _ hS).mono ?_
  rintro e W1 ⟨rfl, hb1⟩
  have hS1 := hS.trans (hb1.mono hS.size)
  clear hb1
  show K _ W1
  refine hK.out _ _ hS1 (fun hS => ?_)
  clear hK K
  refine wpAnyH_take (i := 7) (oi := { dst := some 4, op := Op.assign (Operand.tmp 11), type := 28, pos := _, after := _, guard := none }) (v := .int .i64 y) rfl (by kernel_rfl) (by kernel_rfl) (by kernel_rfl) (fun _ _ _ h => h) (Or.inl ⟨by rfl, fun u hu => by go_simp⟩) hS ?_
  simp only [Act.put, List.setIfInBounds_toArray, List.set_cons_zero, List.set_cons_succ]
  refine wpAnyH_done (by kernel_rfl) ?_ _
  go_wp2_with fail
  go_ret
  exact ⟨rfl, hS⟩
/-- What is wrong with the kth instruction, where globals are used. -/
def insU (gs : List Gl) (nm : ByteArray) (xs : List In) (k : Nat) : Int := match xs[k]? with | some x => useE gs nm x | none => 0
theorem insU_at {gs : List Gl} {nm : ByteArray} {xs : List In} {k : Nat} {x : In} (h : xs[k]? = some x) : insU gs nm xs k = useE gs nm x := by
  unfold insU
  rw [h]
def useU (gs : List Gl) (u : Un) : Int := fstE (insU gs u.1 (u.2.flatMap Pro.code)) 0 (u.2.flatMap Pro.code).length
set_option maxRecDepth 100000 in
set_option maxHeartbeats 3200000 in
theorem use32_any (B t m : Nat) (gs : List Gl) (bv : Value) (us : List Un) (a : Option Addr) (cap k : Nat) (u : Un) (b1 b2 : Nat) (w : World) (hT : TB B t m gs bv w) (hl : UL B w a us) (hk : us[k]? = some u) (hn : us.length ≤ 40) (hc : us.length ≤ cap)
    (h1 : w.heap[b1]? = some (.cells #[.slice a us.length cap] 22 (0, 0))) (h2 : w.heap[b2]? = some (.cells #[.pointer (some ⟨t, 0, none⟩)] 67 (0, 0))) (hr : Right u.1 u.2) :
    Calls Tryd.prog 32 #[.int .i64 k, .pointer (some ⟨b1, 0, none⟩), .pointer (some ⟨b2, 0, none⟩)] w fun e w' => e = .returned (.int .i64 (useU gs u)) ∧ Ty w w' ∧ Below B w w' ∧ (useU gs u = 0 → Below w.heap.size w w') := by
  obtain ⟨y, hy⟩ : ∃ y, y = useU gs u := ⟨_, rfl⟩
  rw [← hy]
  have HY := hidd hy
  clear hy
  obtain ⟨hkl, _⟩ := List.getElem?_eq_some_iff.1 hk
  obtain ⟨ab, ao, rfl, hab, hall⟩ := hl.at hk
  obtain ⟨pa, pc, p0, p1, hpc, hsz, hpl⟩ := hall k _ hk
  have hBw : B ≤ w.heap.size := Nat.le_trans hT.bt (Nat.le_of_lt (Array.getElem?_eq_some_iff.1 hT.tb).1)
  have HPL := hidd hpl
  have HT := hidd hT
  have H2 := hidd h2
  have HPC := hidd hpc
  have RT := hidd hr
  have hbb := (Below.refl w.heap.size w).alloc (Nat.le_refl _) (.cells #[.pointer (some ⟨ab, ao + k * 2, none⟩)] 69)
  have HNB := hidd (World.alloc_heap_new w (.cells #[.pointer (some ⟨ab, ao + k * 2, none⟩)] 69))
  have HBB := hidd hbb
  have r1 : w.cell? ⟨b1, 0, none⟩ = some (.slice (some ⟨ab, ao, none⟩) us.length cap) := (cellO h1).trans rfl
  obtain ⟨n, hn0⟩ : ∃ n, n = us.length := ⟨_, rfl⟩
  rw [← hn0] at r1 hkl hn hc
  have z0 : (w.alloc (.cells #[.pointer none] 69)).cell? ⟨w.heap.size, 0, none⟩ = some (.pointer none) := (cellO (World.alloc_heap_new w (.cells #[.pointer none] 69))).trans rfl
  have z1 := looseO (q := 0) (World.alloc_heap_new w (.cells #[.pointer none] 69))
  clear hk hl hall hpl hT h1 h2 hpc hbb hn0 hsz hr
  go_enter Tryd.func32, Tryd.ntmps32
  go_upto_region 2 with fail
  clear z0 z1 r1
  have habw : ab < w.heap.size := Nat.lt_of_lt_of_le hab hBw
  generalize (w.alloc (.cells #[.pointer (some ⟨ab, ao + k * 2, none⟩)] 69)) = V at HNB HBB ⊢
  obtain ⟨nb, hnb⟩ : ∃ u, u = w.heap.size := ⟨_, rfl⟩
  rw [← hnb] at HNB ⊢
  have v0 : V.cell? ⟨nb, 0, none⟩ = some (.pointer (some ⟨ab, ao + k * 2, none⟩)) := (cellO HNB.out).trans rfl
  have q0 := (HBB.out.cell (p := ⟨ab, ao + k * 2, none⟩) habw).trans p0
  have q1 := (HBB.out.cell (p := ⟨ab, ao + k * 2 + 1, none⟩) habw).trans p1
  have hBV : B ≤ V.heap.size := Nat.le_trans hBw HBB.out.size
  have hbB := HBB.out.mono hBw
  have HTV := hidd (HT.out.below HBB.out)
  have H2V := hidd ((HBB.out.block _ (Array.getElem?_eq_some_iff.1 H2.out).1).trans H2.out)
  have HPLV := hidd (HPL.out.below hbB)
  clear p0 p1 hbB HT H2 HPL
  have hII : Calls Tryd.prog 28 #[.pointer (some ⟨ab, ao + k * 2, none⟩), .func (.func 33) #[] #[.pointer (some ⟨b2, 0, none⟩), .pointer (some ⟨nb, 0, none⟩)]] V fun e W' => e = .returned (.int .i64 y) ∧ Ty V W' ∧ Below B V W' ∧ (y = 0 → Below V.heap.size V W') := by
    rw [HY.out]
    refine insByIns_33 B _ _ u.2 pa pc ab (ao + k * 2) (insU gs u.1 (u.2.flatMap Pro.code)) (fun i W => Below V.heap.size V W) V HPLV.out HPC.out RT.out.n500 RT.out.c6 hab hBV q1 ?_ (fun i W h => h.mono hBV) (Below.refl _ _) ?_
    · intro i W o h
      exact h.alloc h.size o
    · intro i x b o qa qc W hx hil hb h
      refine (use33_any B t m gs bv x b o qa qc u.1 ab (ao + k * 2) nb b2 W hil hb (HTV.out.below h) ((h.block _ (Array.getElem?_eq_some_iff.1 HNB.out).1).trans HNB.out) ((h.block _ (Array.getElem?_eq_some_iff.1 H2V.out).1).trans H2V.out) hab ((h.cell (p := ⟨ab, ao + k * 2, none⟩) (Nat.lt_of_lt_of_le hab hBV)).trans q0)).mono ?_
      rintro e W' ⟨rfl, g1⟩
      rw [insU_at hx]
      have g2 := h.trans (g1.mono h.size)
      exact ⟨rfl, Ty.below g1, g2.mono hBV, fun _ => g2⟩
  have II := hidd hII
  clear hII q0 q1 hnb
  go_wp2_with fail
  refine II.out.mono ?_
  rintro e W3 ⟨rfl, g1, g2, g3⟩
  have HG := hidd (And.intro ((Ty.below HBB.out).trans g1) (And.intro ((HBB.out.mono hBw).trans g2) (fun h => HBB.out.trans ((g3 h).mono HBB.out.size))))
  clear g1 g2 g3 II
  go_wp2_with fail
  go_ret
  exact ⟨rfl, HG.out.1, HG.out.2.1, HG.out.2.2⟩
/-- What is known when so many units' uses are right. -/
structure UI (B t m b1 b2 : Nat) (gs : List Gl) (bv : Value) (us : List Un) (a : Option Addr) (cap : Nat) (w0 W : World) : Prop where
  tb : TB B t m gs bv W
  c1 : W.heap[b1]? = some (.cells #[.slice a us.length cap] 22 (0, 0))
  c2 : W.heap[b2]? = some (.cells #[.pointer (some ⟨t, 0, none⟩)] 67 (0, 0))
  bl : Below B w0 W
theorem UI.below {B t m b1 b2 gs bv us a cap w0 W W'} (h : UI B t m b1 b2 gs bv us a cap w0 W) (hb : Below W.heap.size W W') : UI B t m b1 b2 gs bv us a cap w0 W' := by
  have ht := h.tb
  have hB : B ≤ W.heap.size := Nat.le_trans ht.bt (Nat.le_of_lt (Array.getElem?_eq_some_iff.1 ht.tb).1)
  exact ⟨ht.below hb, (hb.block _ (Array.getElem?_eq_some_iff.1 h.c1).1).trans h.c1, (hb.block _ (Array.getElem?_eq_some_iff.1 h.c2).1).trans h.c2, h.bl.trans (hb.mono hB)⟩
theorem UI.set {B t m b1 b2 gs bv us a cap w0 W} (h : UI B t m b1 b2 gs bv us a cap w0 W) {N q : Nat} {cs : Array Value} (v : Value) (hBN : B ≤ N) (hN : W.heap[N]? = some (.cells cs 30 (0, 0))) : UI B t m b1 b2 gs bv us a cap w0 (W.setCell ⟨N, q, none⟩ v) := by
  have ht := h.tb
  have n1 : b1 ≠ N := fun e => by have := h.c1; rw [e, hN] at this; simp at this
  have n2 : b2 ≠ N := fun e => by have := h.c2; rw [e, hN] at this; simp at this
  exact ⟨ht.setOther hN (by decide) (by decide) v, (Below.heap_setCell _ _ _ _ n1).trans h.c1, (Below.heap_setCell _ _ _ _ n2).trans h.c2, h.bl.setCell (p := ⟨N, q, none⟩) hBN v⟩
theorem ret14 {ts : Array Value} {W : World} {N : Nat} {x0 x1 : Value} (h : W.heap[N]? = some (.cells #[x0, x1] 30 (0, 0))) (h4 : ts[4]? = some (.pointer (some ⟨N, 0, none⟩))) :
    (results Tryd.f14 ts).run Tryd.prog W = .ok (.agg #[x0, x1]) W := by
  have cc : ∀ q, W.cell? ⟨N, q, none⟩ = #[x0, x1][q]? := fun q => by simp [World.cell?, h]
  have q0 := cc 0
  have q1 := cc 1
  simp at q0 q1
  simp [results, Tryd.results14, go_sem, h4, q0, q1]
def unitU (gs : List Gl) (us : List Un) (k : Nat) : Int := match us[k]? with | some u => useU gs u | none => 0
theorem unitU_at {gs : List Gl} {us : List Un} {k : Nat} {u : Un} (h : us[k]? = some u) : unitU gs us k = useU gs u := by
  unfold unitU
  rw [h]
set_option maxRecDepth 100000 in
set_option maxHeartbeats 3200000 in
theorem wrongUses_any (B t m : Nat) (gs : List Gl) (bv : Value) (us : List Un) (a : Option Addr) (cap : Nat) (w0 w : World) (h0 : Below B w0 w) (hT : TB B t m gs bv w) (hl : UL B w0 a us) (hn : us.length ≤ 40) (hc : us.length ≤ cap) (hr : ∀ u ∈ us, Right u.1 u.2) :
    Calls Tryd.prog 14 #[.pointer (some ⟨t, 0, none⟩), .slice a us.length cap] w fun e W' => e = .returned (fv (fstF (unitU gs us) 0 us.length)) ∧ Ty w W' ∧ Below B w0 W' ∧ ((fstF (unitU gs us) 0 us.length).1 = 0 → TB B t m gs bv W') := by
  have b1 := (Below.refl w.heap.size w).alloc (Nat.le_refl _) (.cells #[.pointer (some ⟨t, 0, none⟩)] 67)
  have b2 := b1.alloc (by simp) (.cells #[.slice a us.length cap] 22)
  have b3 := b2.alloc (by simp; omega) (.cells #[.int .i64 0, .int .i64 0] 30)
  have hBw : B ≤ w.heap.size := Nat.le_trans hT.bt (Nat.le_of_lt (Array.getElem?_eq_some_iff.1 hT.tb).1)
  have x1 := World.alloc_heap_new w (.cells #[.pointer (some ⟨t, 0, none⟩)] 67)
  have x2 := World.alloc_heap_new (w.alloc (.cells #[.pointer (some ⟨t, 0, none⟩)] 67)) (.cells #[.slice a us.length cap] 22)
  have x3 := World.alloc_heap_new ((w.alloc (.cells #[.pointer (some ⟨t, 0, none⟩)] 67)).alloc (.cells #[.slice a us.length cap] 22)) (.cells #[.int .i64 0, .int .i64 0] 30)
  have X1 : Hid ((((w.alloc (.cells #[.pointer (some ⟨t, 0, none⟩)] 67)).alloc (.cells #[.slice a us.length cap] 22)).alloc (.cells #[.int .i64 0, .int .i64 0] 30)).heap[w.heap.size]? = some (.cells #[.pointer (some ⟨t, 0, none⟩)] 67 (0, 0))) := by
    rw [Below.heap_alloc _ _ _ (by simp; omega), Below.heap_alloc _ _ _ (by simp)]
    exact hidd x1
  have X2 : Hid ((((w.alloc (.cells #[.pointer (some ⟨t, 0, none⟩)] 67)).alloc (.cells #[.slice a us.length cap] 22)).alloc (.cells #[.int .i64 0, .int .i64 0] 30)).heap[w.heap.size + 1]? = some (.cells #[.slice a us.length cap] 22 (0, 0))) := by
    rw [Below.heap_alloc _ _ _ (by simp)]
    simp at x2
    exact hidd (by simpa using x2)
  have X3 : Hid ((((w.alloc (.cells #[.pointer (some ⟨t, 0, none⟩)] 67)).alloc (.cells #[.slice a us.length cap] 22)).alloc (.cells #[.int .i64 0, .int .i64 0] 30)).heap[w.heap.size + 1 + 1]? = some (.cells #[.int .i64 0, .int .i64 0] 30 (0, 0))) := hidd (by simpa using x3)
  have HBB := hidd b3
  obtain ⟨rs, hrs⟩ : ∃ r, r = fstF (unitU gs us) 0 us.length := ⟨_, rfl⟩
  have HD : Hid (UI B t m (w.heap.size + 1) w.heap.size gs bv us a cap w0 (((w.alloc (.cells #[.pointer (some ⟨t, 0, none⟩)] 67)).alloc (.cells #[.slice a us.length cap] 22)).alloc (.cells #[.int .i64 0, .int .i64 0] 30))) := hidd ⟨hT.below b3, X2.out, X1.out, h0.trans (b3.mono hBw)⟩
  have HL := hidd hl
  have HRT := hidd hr
  rw [← hrs]
  have HRS := hidd hrs
  have HC := hidd hc
  clear b1 b2 b3 x1 x2 x3 hl hr hrs hc h0 hT
  go_enter Tryd.func14, Tryd.ntmps14
  go_upto_region 1 with fail
  generalize (((w.alloc (.cells #[.pointer (some ⟨t, 0, none⟩)] 67)).alloc (.cells #[.slice a us.length cap] 22)).alloc (.cells #[.int .i64 0, .int .i64 0] 30)) = V at X1 X2 X3 HBB HD ⊢
  have g1 : V.cell? ⟨w.heap.size + 1, 0, none⟩ = some (.slice a us.length cap) := (cellO X2.out).trans rfl
  have hBV : B ≤ V.heap.size := Nat.le_trans hBw HBB.out.size
  have hUU : Calls Tryd.prog 23 #[.slice a us.length cap, .func (.func 32) #[] #[.pointer (some ⟨w.heap.size + 1, 0, none⟩), .pointer (some ⟨w.heap.size, 0, none⟩)]] V fun e W' => e = .returned (fv rs) ∧ Ty V W' ∧ Below B w0 W' ∧ (rs.1 = 0 → UI B t m (w.heap.size + 1) w.heap.size gs bv us a cap w0 W') := by
    rw [HRS.out]
    refine unitByUnit_32 B us.length cap a _ _ (unitU gs us) (fun j W => UI B t m (w.heap.size + 1) w.heap.size gs bv us a cap w0 W) w0 V hn hBV (fun k W o h => h.below ((Below.refl _ _).alloc (Nat.le_refl _) o)) (fun k W h => h.bl) (fun k W N cs q v hBN hN h => h.set v hBN hN) HD.out ?_
    intro k W hk h
    obtain ⟨u, hu⟩ : ∃ u, us[k]? = some u := ⟨_, List.getElem?_eq_getElem hk⟩
    refine (use32_any B t m gs bv us a cap k u (w.heap.size + 1) w.heap.size W h.tb (HL.out.below h.bl) hu hn HC.out h.c1 h.c2 (HRT.out u (List.mem_of_getElem? hu))).mono ?_
    rintro e W' ⟨rfl, g1, g2, g3⟩
    rw [unitU_at hu]
    exact ⟨rfl, g1, h.bl.trans g2, fun hz => h.below (g3 hz)⟩
  have UU := hidd hUU
  clear hUU HRS HD
  obtain ⟨fb, hfb⟩ : ∃ u, u = w.heap.size + 1 + 1 := ⟨_, rfl⟩
  have HFB := hidd hfb
  rw [← hfb] at X3 ⊢
  clear hfb
  have HTV := hidd (Ty.below HBB.out)
  go_wp2_with fail
  refine UU.out.mono ?_
  rintro e W1 ⟨rfl, s1, s2, s3⟩
  unfold fv
  have HX := hidd (s1 _ _ 30 X3.out (by decide) (by decide))
  have hBF : B ≤ fb := by rw [HFB.out]; omega
  have d0 : W1.cell? ⟨fb, 0, none⟩ = some (.int .i64 0) := (cellO HX.out).trans rfl
  have d1 : W1.cell? ⟨fb, 1, none⟩ = some (.int .i64 0) := (cellO HX.out).trans rfl
  have z0 := looseO (q := 0) HX.out
  have z1 := looseO (q := 1) HX.out
  have HF1 := hidd (two_at0 HX.out (.int .i64 rs.1))
  have HFI := hidd (two_at1 (two_at0 HX.out (.int .i64 rs.1)) (.int .i64 rs.2))
  have HTY : Hid (Ty w ((W1.setCell ⟨fb, 0, none⟩ (.int .i64 rs.1)).setCell ⟨fb, 1, none⟩ (.int .i64 rs.2)) ∧ Below B w0 ((W1.setCell ⟨fb, 0, none⟩ (.int .i64 rs.1)).setCell ⟨fb, 1, none⟩ (.int .i64 rs.2)) ∧ (rs.1 = 0 → UI B t m (w.heap.size + 1) w.heap.size gs bv us a cap w0 ((W1.setCell ⟨fb, 0, none⟩ (.int .i64 rs.1)).setCell ⟨fb, 1, none⟩ (.int .i64 rs.2)))) := ⟨((HTV.out.trans s1).setNew (by rw [HFB.out]; omega) _).setNew (by rw [HFB.out]; omega) _, (s2.setCell (p := ⟨fb, 0, none⟩) hBF _).setCell (p := ⟨fb, 1, none⟩) hBF _, fun h => ((s3 h).set _ hBF HX.out).set _ hBF HF1.out⟩
  clear s1 s2 s3 HX HF1 UU
  go_wp2_with fail
  exact bodyPost_ret (ret14 HFI.out rfl) rfl ⟨rfl, HTY.out.1, HTY.out.2.1, fun h => (HTY.out.2.2 h).tb⟩
end Go.Proofs.YtdnbingddbakaaaDoor
