/- Chapter 10: all that units define. -/
import Derived.Test.YtdnbingddbakaaaDoorK34
import Derived.Test.YtdnbingddbakaaaDoorK30
namespace Go.Proofs.YtdnbingddbakaaaDoor
set_option linter.unusedVariables false
set_option linter.unusedSimpArgs false
open Go.RowKit

/-- All that the first units define. -/
def allI (us : List Un) : List In := us.flatMap fun u => u.2.flatMap Pro.code
def defAll (us : List Un) (j : Nat) : List Gl := defGs [] (allI (us.take j))
theorem allI_next {us : List Un} {j : Nat} {u : Un} (h : us[j]? = some u) : allI (us.take (j + 1)) = allI (us.take j) ++ u.2.flatMap Pro.code := by
  rw [List.take_add_one, h]
  simp [allI]
theorem defAll_next {us : List Un} {j : Nat} {u : Un} (h : us[j]? = some u) : defAll us (j + 1) = defGs (defAll us j) (u.2.flatMap Pro.code) := by
  unfold defAll
  rw [allI_next h]
  simp [defGs]
def unitE (us : List Un) (k : Nat) : Int := match us[k]? with | some u => defU us k u | none => 0
theorem unitE_at {us : List Un} {k : Nat} {u : Un} (h : us[k]? = some u) : unitE us k = defU us k u := by
  unfold unitE
  rw [h]
theorem defU_right {us : List Un} {k : Nat} {u : Un} (h : defU us k u = 0) : wrongU u.1 u.2 = 0 := by
  unfold defU at h
  by_cases h0 : wrongU u.1 u.2 = 0
  · exact h0
  · rw [if_neg h0] at h; exact h
theorem right_len {u : Un} (h : wrongU u.1 u.2 = 0) : (u.2.flatMap Pro.code).length ≤ 3000000 := by
  have h1 := right_of h
  have h2 := code_len h1.c6
  have h3 := h1.n500
  omega
/-- What is known when so many units are taken in. -/
structure DI (B t m b1 b2 : Nat) (us : List Un) (a : Option Addr) (cap : Nat) (w0 : World) (j : Nat) (W : World) : Prop where
  tb : ∃ bv, TB B t m (defAll us j) bv W
  len : (defAll us j).length ≤ j * 3000000
  c1 : W.heap[b1]? = some (.cells #[.slice a us.length cap] 22 (0, 0))
  c2 : W.heap[b2]? = some (.cells #[.pointer (some ⟨t, 0, none⟩)] 67 (0, 0))
  bl : Below B w0 W
theorem DI.alloc {B t m b1 b2 us a cap w0 j W} (h : DI B t m b1 b2 us a cap w0 j W) (o : Obj) : DI B t m b1 b2 us a cap w0 j (W.alloc o) := by
  have hb := (Below.refl W.heap.size W).alloc (Nat.le_refl _) o
  obtain ⟨bv, ht⟩ := h.tb
  have hB : B ≤ W.heap.size := Nat.le_trans ht.bt (Nat.le_of_lt (Array.getElem?_eq_some_iff.1 ht.tb).1)
  exact ⟨⟨bv, ht.below hb⟩, h.len, (hb.block _ (Array.getElem?_eq_some_iff.1 h.c1).1).trans h.c1, (hb.block _ (Array.getElem?_eq_some_iff.1 h.c2).1).trans h.c2, h.bl.trans (hb.mono hB)⟩
theorem DI.set {B t m b1 b2 us a cap w0 j W} (h : DI B t m b1 b2 us a cap w0 j W) {N q : Nat} {cs : Array Value} (v : Value) (hBN : B ≤ N) (hN : W.heap[N]? = some (.cells cs 30 (0, 0))) : DI B t m b1 b2 us a cap w0 j (W.setCell ⟨N, q, none⟩ v) := by
  obtain ⟨bv, ht⟩ := h.tb
  have n1 : b1 ≠ N := fun e => by have := h.c1; rw [e, hN] at this; simp at this
  have n2 : b2 ≠ N := fun e => by have := h.c2; rw [e, hN] at this; simp at this
  exact ⟨⟨bv, ht.setOther hN (by decide) (by decide) v⟩, h.len, (Below.heap_setCell _ _ _ _ n1).trans h.c1, (Below.heap_setCell _ _ _ _ n2).trans h.c2, h.bl.setCell (p := ⟨N, q, none⟩) hBN v⟩
theorem ret13 {ts : Array Value} {W : World} {N : Nat} {x0 x1 : Value} (h : W.heap[N]? = some (.cells #[x0, x1] 30 (0, 0))) (h4 : ts[4]? = some (.pointer (some ⟨N, 0, none⟩))) :
    (results Tryd.f13 ts).run Tryd.prog W = .ok (.agg #[x0, x1]) W := by
  have cc : ∀ q, W.cell? ⟨N, q, none⟩ = #[x0, x1][q]? := fun q => by simp [World.cell?, h]
  have q0 := cc 0
  have q1 := cc 1
  simp at q0 q1
  simp [results, Tryd.results13, go_sem, h4, q0, q1]
set_option maxRecDepth 100000 in
set_option maxHeartbeats 3200000 in
theorem define_any (B t m : Nat) (bv : Value) (us : List Un) (a : Option Addr) (cap : Nat) (w0 w : World) (hB : B = w0.heap.size) (h0 : Below B w0 w) (hT : TB B t m [] bv w) (hl : UL B w0 a us) (hn : us.length ≤ 40) (hc : us.length ≤ cap) (htab : TabS w0) (hum : ∀ u ∈ us, u.2.length ≤ 9223372036854775807) :
    Calls Tryd.prog 13 #[.pointer (some ⟨t, 0, none⟩), .slice a us.length cap] w fun e W' => e = .returned (fv (fstF (unitE us) 0 us.length)) ∧ Ty w W' ∧ Below B w0 W' ∧ ((fstF (unitE us) 0 us.length).1 = 0 → (∃ bv', TB B t m (defAll us us.length) bv' W') ∧ (defAll us us.length).length ≤ us.length * 3000000) := by
  have b1 := (Below.refl w.heap.size w).alloc (Nat.le_refl _) (.cells #[.pointer (some ⟨t, 0, none⟩)] 67)
  have b2 := b1.alloc (by simp) (.cells #[.slice a us.length cap] 22)
  have b3 := b2.alloc (by simp; omega) (.cells #[.int .i64 0, .int .i64 0] 30)
  have hBw : B ≤ w.heap.size := Nat.le_trans hT.bt (Nat.le_of_lt (Array.getElem?_eq_some_iff.1 hT.tb).1)
  have x1 := World.alloc_heap_new w (.cells #[.pointer (some ⟨t, 0, none⟩)] 67)
  have x2 := World.alloc_heap_new (w.alloc (.cells #[.pointer (some ⟨t, 0, none⟩)] 67)) (.cells #[.slice a us.length cap] 22)
  have x3 := World.alloc_heap_new ((w.alloc (.cells #[.pointer (some ⟨t, 0, none⟩)] 67)).alloc (.cells #[.slice a us.length cap] 22)) (.cells #[.int .i64 0, .int .i64 0] 30)
  have X1 : Hid ((((w.alloc (.cells #[.pointer (some ⟨t, 0, none⟩)] 67)).alloc (.cells #[.slice a us.length cap] 22)).alloc (.cells #[.int .i64 0, .int .i64 0] 30)).heap[w.heap.size]? = some (.cells #[.pointer (some ⟨t, 0, none⟩)] 67 (0, 0))) := by
    rw [Below.heap_alloc _ _ _ (by simp; omega), Below.heap_alloc _ _ _ (by simp)]
    exact hidd x1
  have X2 : Hid ((((w.alloc (.cells #[.pointer (some ⟨t, 0, none⟩)] 67)).alloc (.cells #[.slice a us.length cap] 22)).alloc (.cells #[.int .i64 0, .int .i64 0] 30)).heap[w.heap.size + 1]? = some (.cells #[.slice a us.length cap] 22 (0, 0))) := by
    rw [Below.heap_alloc _ _ _ (by simp)]
    simp at x2
    exact hidd (by simpa using x2)
  have X3 : Hid ((((w.alloc (.cells #[.pointer (some ⟨t, 0, none⟩)] 67)).alloc (.cells #[.slice a us.length cap] 22)).alloc (.cells #[.int .i64 0, .int .i64 0] 30)).heap[w.heap.size + 1 + 1]? = some (.cells #[.int .i64 0, .int .i64 0] 30 (0, 0))) := hidd (by simpa using x3)
  have HBB := hidd b3
  obtain ⟨rs, hrs⟩ : ∃ r, r = fstF (unitE us) 0 us.length := ⟨_, rfl⟩
  have HD : Hid (DI B t m (w.heap.size + 1) w.heap.size us a cap w0 0 (((w.alloc (.cells #[.pointer (some ⟨t, 0, none⟩)] 67)).alloc (.cells #[.slice a us.length cap] 22)).alloc (.cells #[.int .i64 0, .int .i64 0] 30))) := hidd ⟨⟨bv, by simpa [defAll, allI, defGs] using hT.below b3⟩, by simp [defAll, allI, defGs], X2.out, X1.out, h0.trans (b3.mono hBw)⟩
  have HL := hidd hl
  have HTAB := hidd htab
  have HUM := hidd hum
  rw [← hrs]
  have HRS := hidd hrs
  have HC := hidd hc
  clear b1 b2 b3 x1 x2 x3 hl htab hum hrs hc h0 hT
  go_enter Tryd.func13, Tryd.ntmps13
  go_upto_region 1 with fail
  generalize (((w.alloc (.cells #[.pointer (some ⟨t, 0, none⟩)] 67)).alloc (.cells #[.slice a us.length cap] 22)).alloc (.cells #[.int .i64 0, .int .i64 0] 30)) = V at X1 X2 X3 HBB HD ⊢
  have g1 : V.cell? ⟨w.heap.size + 1, 0, none⟩ = some (.slice a us.length cap) := (cellO X2.out).trans rfl
  have hBV : B ≤ V.heap.size := Nat.le_trans hBw HBB.out.size
  have hUU : Calls Tryd.prog 23 #[.slice a us.length cap, .func (.func 24) #[] #[.pointer (some ⟨w.heap.size + 1, 0, none⟩), .pointer (some ⟨w.heap.size, 0, none⟩)]] V fun e W' => e = .returned (fv rs) ∧ Ty V W' ∧ Below B w0 W' ∧ (rs.1 = 0 → DI B t m (w.heap.size + 1) w.heap.size us a cap w0 us.length W') := by
    rw [HRS.out]
    refine unitByUnit_24 B us.length cap a _ _ (unitE us) (fun j W => DI B t m (w.heap.size + 1) w.heap.size us a cap w0 j W) w0 V hn hBV (fun k W o h => h.alloc o) (fun k W h => h.bl) (fun k W N cs q v hBN hN h => h.set v hBN hN) HD.out ?_
    intro k W hk h
    obtain ⟨u, hu⟩ : ∃ u, us[k]? = some u := ⟨_, List.getElem?_eq_getElem hk⟩
    obtain ⟨bv', ht⟩ := h.tb
    have hlen := h.len
    refine (def24_any B t m (defAll us k) bv' us a cap k u (w.heap.size + 1) w.heap.size W ht (HL.out.below h.bl) hu hn HC.out (HTAB.out.below (by rw [← hB]; exact h.bl)) h.c1 h.c2 (by omega) (HUM.out u (List.mem_of_getElem? hu))).mono ?_
    rintro e W' ⟨rfl, g1, g2, g3⟩
    rw [unitE_at hu]
    refine ⟨rfl, g1, h.bl.trans g2, fun hz => ⟨?_, ?_, g1 _ _ 22 h.c1 (by decide) (by decide), g1 _ _ 67 h.c2 (by decide) (by decide), h.bl.trans g2⟩⟩
    · rw [defAll_next hu]; exact g3 hz
    · rw [defAll_next hu]
      have l1 := defGs_len (u.2.flatMap Pro.code) (defAll us k)
      have l2 := right_len (defU_right hz)
      omega
  have UU := hidd hUU
  clear hUU HRS HD
  obtain ⟨fb, hfb⟩ : ∃ u, u = w.heap.size + 1 + 1 := ⟨_, rfl⟩
  have HFB := hidd hfb
  rw [← hfb] at X3 ⊢
  clear hfb
  have HTV := hidd (Ty.below HBB.out)
  go_wp2_with fail
  refine UU.out.mono ?_
  rintro e W1 ⟨rfl, s1, s2, s3⟩
  unfold fv
  have HX := hidd (s1 _ _ 30 X3.out (by decide) (by decide))
  have hBF : B ≤ fb := by rw [HFB.out]; omega
  have d0 : W1.cell? ⟨fb, 0, none⟩ = some (.int .i64 0) := (cellO HX.out).trans rfl
  have d1 : W1.cell? ⟨fb, 1, none⟩ = some (.int .i64 0) := (cellO HX.out).trans rfl
  have z0 := looseO (q := 0) HX.out
  have z1 := looseO (q := 1) HX.out
  have HF1 := hidd (two_at0 HX.out (.int .i64 rs.1))
  have HFI := hidd (two_at1 (two_at0 HX.out (.int .i64 rs.1)) (.int .i64 rs.2))
  have HTY : Hid (Ty w ((W1.setCell ⟨fb, 0, none⟩ (.int .i64 rs.1)).setCell ⟨fb, 1, none⟩ (.int .i64 rs.2)) ∧ Below B w0 ((W1.setCell ⟨fb, 0, none⟩ (.int .i64 rs.1)).setCell ⟨fb, 1, none⟩ (.int .i64 rs.2)) ∧ (rs.1 = 0 → DI B t m (w.heap.size + 1) w.heap.size us a cap w0 us.length ((W1.setCell ⟨fb, 0, none⟩ (.int .i64 rs.1)).setCell ⟨fb, 1, none⟩ (.int .i64 rs.2)))) := ⟨((HTV.out.trans s1).setNew (by rw [HFB.out]; omega) _).setNew (by rw [HFB.out]; omega) _, (s2.setCell (p := ⟨fb, 0, none⟩) hBF _).setCell (p := ⟨fb, 1, none⟩) hBF _, fun h => ((s3 h).set _ hBF HX.out).set _ hBF HF1.out⟩
  clear s1 s2 s3 HX HF1 UU
  go_wp2_with fail
  exact bodyPost_ret (ret13 HFI.out rfl) rfl ⟨rfl, HTY.out.1, HTY.out.2.1, fun h => ⟨(HTY.out.2.2 h).tb, (HTY.out.2.2 h).len⟩⟩
end Go.Proofs.YtdnbingddbakaaaDoor
