/- Chapter 3: what Show makes of a set. -/
import Derived.Test.YtonafbennobgdaaGreatDoorK45
import Derived.Test.YtonafbennobgdaaGreatDoorK17
import Derived.Test.YtonafbennobgdaaGreatDoorK37
namespace Go.Proofs.YtonafbennobgdaaGreatDoor
set_option linter.unusedVariables false
set_option linter.unusedSimpArgs false
open Go.RowKit
set_option maxRecDepth 100000
set_option maxHeartbeats 25600000

theorem ret87 {ts : Array Value} {W : World} {R : Nat} {d : Dat} {v : Value} (h : Nod R d v W) (h6 : ts[4]? = some (.pointer (some ⟨R, 0, none⟩))) :
  (results Tryz.f87 ts).run Tryz.prog W = .ok (.agg #[.int .i64 d.kind, .int .i64 d.n, .string d.name, .int .i64 d.stamp, .int .i64 d.lib, v]) W := by
 obtain ⟨q, q0, q1, q2, q3, q4, q5, qz⟩ := h
 simp [results, Tryz.results87, go_sem, h6, q0, q1, q2, q3, q4, q5]
theorem shownSet87_lib (nm p : ByteArray) (na aa ka : Option Addr) (n1 nc n2 ac kl kc dp : Nat) (m : Int) (w : World) (hm : w.cell? ⟨1, 0, none⟩ = some (.int .i64 m)) (hn : nm.size ≤ 60) (hdp : dp ≤ 12) :
  Calls Tryz.prog 87 #[.agg #[.int .i64 1, .string nm, .slice na n1 nc, .slice aa n2 ac, .string p, .slice ka kl kc], .int .i64 (dp : Int)] w (TellF (callD nm) w) := by
 have hm1 := World.block_lt_of_cell? w ⟨1, 0, none⟩ hm
 simp only at hm1
 obtain ⟨W1, hW1⟩ : ∃ W1, W1 = (w.alloc (.cells #[.int .i64 1, .string nm, .slice na n1 nc, .slice aa n2 ac, .string p, .slice ka kl kc] 73)).alloc (.cells #[.int .i64 0, .int .i64 0, .string ⟨#[]⟩, .int .i64 0, .int .i64 0, .slice none 0 0] 26) := ⟨_, rfl⟩
 have hb1 : Below w.heap.size w W1 := by rw [hW1]; exact ((Below.refl _ _).alloc (Nat.le_refl _) _).alloc (by simp) _
 have hsz : W1.heap.size = w.heap.size + 2 := by rw [hW1]; simp
 have bx : W1.heap[w.heap.size]? = some (.cells #[.int .i64 1, .string nm, .slice na n1 nc, .slice aa n2 ac, .string p, .slice ka kl kc] 73 (0, 0)) := by rw [hW1, Below.heap_alloc _ _ _ (by simp)]; exact World.alloc_heap_new w _
 have N0 : Nod (w.alloc (.cells #[.int .i64 1, .string nm, .slice na n1 nc, .slice aa n2 ac, .string p, .slice ka kl kc] 73)).heap.size ⟨0, 0, ⟨#[]⟩, 0, 0, []⟩ (.slice none 0 0) _ := Nod.made (w.alloc (.cells #[.int .i64 1, .string nm, .slice na n1 nc, .slice aa n2 ac, .string p, .slice ka kl kc] 73)) ⟨0, 0, ⟨#[]⟩, 0, 0, []⟩ (.slice none 0 0)
 have N1 : Hid (Nod (w.heap.size + 1) ⟨0, 0, ⟨#[]⟩, 0, 0, []⟩ (.slice none 0 0) W1) := by
  show Nod _ _ _ _
  rw [hW1]
  simpa using N0
 have HB1 : Hid (Below w.heap.size w W1 ∧ W1.heap.size = w.heap.size + 2 ∧ W1.heap[w.heap.size]? = some (.cells #[.int .i64 1, .string nm, .slice na n1 nc, .slice aa n2 ac, .string p, .slice ka kl kc] 73 (0, 0))) := ⟨hb1, hsz, bx⟩
 have HW := hidd hW1.symm
 have SC := hidd (shownCall68 nm m W1 ((hb1.cell (p := ⟨1, 0, none⟩) hm1).trans hm) hn)
 have MU : Hid (∀ W x, Calls Tryz.prog 54 #[.bool true, .int .i64 x] W fun e w' => e = .returned (.tuple #[]) ∧ w' = W) := fun W x => must_yes x W
 have m0 : W1.cell? ⟨w.heap.size, 0, none⟩ = some _ := (cellO bx).trans rfl
 have m1 : W1.cell? ⟨w.heap.size, 1, none⟩ = some _ := (cellO bx).trans rfl
 have d1 : (dp : Int) ≤ 12 := by omega
 have d2 : decide ((dp : Int) ≤ 12) = true := by simp; omega
 obtain ⟨dn, hdn⟩ : ∃ d, d = callD nm := ⟨_, rfl⟩
 rw [← hdn] at SC ⊢
 clear hW1 hb1 hsz bx N0 hm hm1 hn hdn
 go_enter Tryz.func87, Tryz.ntmps87
 go_upto_region 1 with fail
 rw [HW.out]
 clear HW
 go_wp2_with fail
 refine (MU.out W1 4).mono ?_
 rintro e w2 ⟨rfl, rfl⟩
 go_wp2_with fail
 refine SC.out.mono ?_
 rintro e w3 ⟨hb3, qa, qc, rfl, hde⟩
 have N3 := N1.out.after hb3
 have HB3 : Hid (Below w.heap.size w w3) := HB1.out.1.trans (hb3.mono HB1.out.1.size)
 have HDE := hidd hde
 have NH := hidd N3
 obtain ⟨q, q0, q1, q2, q3, q4, q5, qz⟩ := N3
 simp only at q0 q1 q2 q3 q4 q5
 have HSZ := HB1.out.2.1
 clear hb3 hde SC m0 m1 MU
 unfold dv
 go_wp2_with fail
 refine bodyPost_ret (ret87 (NH.out.store dn (.slice qa dn.kids.length qc)) rfl) rfl ?_
 have hh := six_heap w3 (w.heap.size + 1) (.int .i64 dn.kind) (.int .i64 dn.n) (.string dn.name) (.int .i64 dn.stamp) (.int .i64 dn.lib) (.slice qa dn.kids.length qc)
 refine ⟨below_sixN HB3.out (Nat.le_succ _) _ _ _ _ _ _, qa, qc, rfl, ?_⟩
 obtain ⟨g1, g2, f, g3⟩ := HDE.out
 exact ⟨g1, g2, f, Dc.stay (fun k hk => hh.1 k (by have := hk.1; omega)) (fun k hk => ⟨by have := hk.1; omega, by rw [hh.2]; exact hk.2⟩) _ _ _ g3⟩
theorem renD_len : ∀ (ns as_ : List ByteArray), (renD ns as_).length ≤ ns.length
 | [], [] => Nat.le_refl _
 | [], a :: r => Nat.le_refl _
 | n :: r, [] => Nat.zero_le _
 | n :: r, a :: s => by
  have := renD_len r s
  simp only [renD, List.length_cons]
  omega
theorem TabW.word {w : World} (h : TabW w) {kn : Nat} (h1 : 2 ≤ kn) (h2 : kn ≤ 5) : w.cell? ⟨0, kn, none⟩ = some (.string (setWordsB.getD kn ⟨#[]⟩)) := by
 have : kn = 2 ∨ kn = 3 ∨ kn = 4 ∨ kn = 5 := by omega
 rcases this with rfl | rfl | rfl | rfl
 ·exact h.c2
 ·exact h.c3
 ·exact h.c4
 ·exact h.c5
theorem shownSet87_else (kn : Nat) (nm p : ByteArray) (ns as_ : List ByteArray) (x : Se) (na aa ka : Option Addr) (nc ac kc dp : Nat) (w : World) (ht : TabW w) (h0 : 0 < w.heap.size) (hk1 : 2 ≤ kn) (hk2 : kn ≤ 5) (hdp : dp ≤ 12) (hp : p.size ≤ 1000)
  (hns : SV (fun k => k < w.heap.size) ns (.slice na ns.length nc) w) (has : SV (fun k => k < w.heap.size) as_ (.slice aa as_.length ac) w) (hs1 : ∀ x ∈ ns, x.size ≤ 1000) (hs2 : ∀ x ∈ as_, x.size ≤ 1000) (hl1 : ns.length ≤ 100000) (hq : kn = 5 → ns.length = as_.length)
  (hx : SeL (fun k => k < w.heap.size) w [x] (.slice ka 1 kc)) (IH : ∀ v W, Below w.heap.size w W → SeV (fun k => k < w.heap.size) W x v → Calls Tryz.prog 87 #[v, .int .i64 ((dp : Int) + 1)] W (TellF (setD x) W)) :
  Calls Tryz.prog 87 #[.agg #[.int .i64 (kn : Int), .string nm, .slice na ns.length nc, .slice aa as_.length ac, .string p, .slice ka 1 kc], .int .i64 (dp : Int)] w (TellF (liD (syD (setWordsB.getD kn ⟨#[]⟩) :: setD x :: restD (kn : Int) ns as_ p)) w) := by
 have HX := hidd hx
 obtain ⟨ax, cx, ex, q1⟩ := hx.at
 obtain ⟨rfl, rfl⟩ : ka = ax ∧ kc = cx := by simp only [Value.slice.injEq] at ex; exact ⟨ex.1, ex.2.2⟩
 cases x with
 | mk xk xnm xns xas xp xks =>
 obtain ⟨kb, ko, xnv, xav, xkv, rfl, hkb, c0, c1, c2, c3, c4, c5, xsn, xsa, xsk⟩ := q1 0 xk xnm xns xas xp xks rfl
 obtain ⟨xa, xc, rfl, _⟩ := id xsn
 obtain ⟨xaa, xac, rfl, _⟩ := id xsa
 have SK := hidd xsk
 obtain ⟨xka, xkn, xkc, rfl⟩ := SeL.slice xsk
 have XC : Hid (∀ u, Below w.heap.size w u → u.cell? ⟨kb, ko, none⟩ = some (.int .i64 xk) ∧ u.cell? ⟨kb, ko + 1, none⟩ = some (.string xnm) ∧ u.cell? ⟨kb, ko + 2, none⟩ = some (.slice xa xns.length xc) ∧ u.cell? ⟨kb, ko + 3, none⟩ = some (.slice xaa xas.length xac) ∧ u.cell? ⟨kb, ko + 4, none⟩ = some (.string xp) ∧ u.cell? ⟨kb, ko + 5, none⟩ = some (.slice xka xkn xkc)) := fun u hu => by
  have e1 : ∀ q, u.cell? ⟨kb, q, none⟩ = w.cell? ⟨kb, q, none⟩ := fun q => hu.cell (p := ⟨kb, q, none⟩) hkb
  simp only [Nat.zero_mul, Nat.add_zero] at c0 c1 c2 c3 c4 c5
  exact ⟨(e1 _).trans c0, (e1 _).trans c1, (e1 _).trans c2, (e1 _).trans c3, (e1 _).trans c4, (e1 _).trans c5⟩
 have IC : Hid (∀ W, Below w.heap.size w W → Calls Tryz.prog 87 #[.agg #[.int .i64 xk, .string xnm, .slice xa xns.length xc, .slice xaa xas.length xac, .string xp, .slice xka xkn xkc], .int .i64 ((dp : Int) + 1)] W (TellF (setD (.mk xk xnm xns xas xp xks)) W)) := fun W hb => IH _ W hb (SeV.stay (s := .mk xk xnm xns xas xp xks) (fun k hk => hb.block k hk) (fun _ h => h) ⟨_, _, _, rfl, xsn, xsa, SK.out⟩)
 have TW : Hid (∀ u, Below w.heap.size w u → u.cell? ⟨0, kn, none⟩ = some (.string (setWordsB.getD kn ⟨#[]⟩))) := fun u hu => (ht.below hu h0).word hk1 hk2
 have SYW : Hid (∀ W, Calls Tryz.prog 67 #[.string (setWordsB.getD kn ⟨#[]⟩)] W fun e w' => e = .returned (dv (syD (setWordsB.getD kn ⟨#[]⟩)) none 0) ∧ Below W.heap.size W w') := fun W => symbol67 _ W (by have : kn = 2 ∨ kn = 3 ∨ kn = 4 ∨ kn = 5 := (by omega); rcases this with rfl | rfl | rfl | rfl <;> decide)
 have ZW : Hid ((syD (setWordsB.getD kn ⟨#[]⟩)).name.size ≤ maxLen ∧ (syD (setWordsB.getD kn ⟨#[]⟩)).kids = []) := ⟨by have : kn = 2 ∨ kn = 3 ∨ kn = 4 ∨ kn = 5 := (by omega); rcases this with rfl | rfl | rfl | rfl <;> decide, rfl⟩
 have SNS : Hid (∀ W, Below w.heap.size w W → Calls Tryz.prog 90 #[.slice na ns.length nc] W fun e w' => Below W.heap.size W w' ∧ ∃ va vc es, e = .returned (.slice va es.length vc) ∧ es.map (·.1) = ns.map syD ∧ RowE (fun b => W.heap.size ≤ b) W.heap.size (.slice va es.length vc) es w') := fun W hb => symbols90 ns na nc W (hns.stay (fun k hk => hb.block k hk) (fun k hk => Nat.lt_of_lt_of_le hk hb.size)) hs1 (by omega)
 have SRN : Hid (kn = 5 → ∀ W, Below w.heap.size w W → Calls Tryz.prog 117 #[.slice na ns.length nc, .slice aa as_.length ac] W fun e w' => Below W.heap.size W w' ∧ ∃ va vc es, e = .returned (.slice va es.length vc) ∧ es.map (·.1) = renD ns as_ ∧ RowE (fun b => W.heap.size ≤ b) W.heap.size (.slice va es.length vc) es w') := fun h5 W hb => shownRenames117 ns as_ na aa nc ac W (hns.stay (fun k hk => hb.block k hk) (fun k hk => Nat.lt_of_lt_of_le hk hb.size)) (has.stay (fun k hk => hb.block k hk) (fun k hk => Nat.lt_of_lt_of_le hk hb.size)) hs1 hs2 (by omega) (hq h5)
 have SPP : Hid (∀ W, Calls Tryz.prog 67 #[.string p] W fun e w' => e = .returned (dv (syD p) none 0) ∧ Below W.heap.size W w') := fun W => symbol67 p W (by omega)
 have ZP : Hid ((syD p).name.size ≤ maxLen ∧ (syD p).kids = []) := ⟨by show p.size ≤ maxLen; unfold maxLen; omega, rfl⟩
 have LEN : Hid ((ns.map syD).length ≤ 100000 ∧ (renD ns as_).length ≤ 100000) := ⟨by rw [List.length_map]; exact hl1, Nat.le_trans (renD_len ns as_) hl1⟩
 have MU : Hid (∀ W x, Calls Tryz.prog 54 #[.bool true, .int .i64 x] W fun e w' => e = .returned (.tuple #[]) ∧ w' = W) := fun W x => must_yes x W
 have HKN : Hid (2 ≤ kn ∧ kn ≤ 5) := ⟨hk1, hk2⟩
 have R23 : Hid (kn = 2 ∨ kn = 3 → restD (kn : Int) ns as_ p = ns.map syD) := fun h => by unfold restD; rw [if_pos (by omega)]
 have R4 : Hid (kn = 4 → restD (kn : Int) ns as_ p = [syD p]) := fun h => by unfold restD; rw [if_neg (by omega), if_pos (by omega)]
 have R5 : Hid (kn = 5 → restD (kn : Int) ns as_ p = renD ns as_) := fun h => by unfold restD; rw [if_neg (by omega), if_neg (by omega), if_pos (by omega)]
 generalize restD (kn : Int) ns as_ p = rest at *
 generalize setD (.mk xk xnm xns xas xp xks) = dx at *
 generalize xns.length = xn at *
 generalize xas.length = xan at *
 generalize setWordsB.getD kn ⟨#[]⟩ = wd at *
 generalize hn1 : ns.length = n1 at *
 generalize hn2 : as_.length = n2 at *
 clear ht h0 hns has hs1 hs2 hl1 hq HX hx IH ex q1 hkb c0 c1 c2 c3 c4 c5 xsn xsa xsk SK hp hn1 hn2
 generalize syD wd = dw at *
 generalize syD p = dpp at *
 obtain ⟨W1, hW1⟩ : ∃ W1, W1 = (w.alloc (.cells #[.int .i64 (kn : Int), .string nm, .slice na n1 nc, .slice aa n2 ac, .string p, .slice (some ⟨kb, ko, none⟩) 1 kc] 73)).alloc (.cells #[.int .i64 0, .int .i64 0, .string ⟨#[]⟩, .int .i64 0, .int .i64 0, .slice none 0 0] 26) := ⟨_, rfl⟩
 have hb1 : Below w.heap.size w W1 := by rw [hW1]; exact ((Below.refl _ _).alloc (Nat.le_refl _) _).alloc (by simp) _
 have hsz : W1.heap.size = w.heap.size + 2 := by rw [hW1]; simp
 have bx : W1.heap[w.heap.size]? = some (.cells #[.int .i64 (kn : Int), .string nm, .slice na n1 nc, .slice aa n2 ac, .string p, .slice (some ⟨kb, ko, none⟩) 1 kc] 73 (0, 0)) := by rw [hW1, Below.heap_alloc _ _ _ (by simp)]; exact World.alloc_heap_new w _
 have N0 : Nod (w.alloc (.cells #[.int .i64 (kn : Int), .string nm, .slice na n1 nc, .slice aa n2 ac, .string p, .slice (some ⟨kb, ko, none⟩) 1 kc] 73)).heap.size ⟨0, 0, ⟨#[]⟩, 0, 0, []⟩ (.slice none 0 0) _ := Nod.made (w.alloc (.cells #[.int .i64 (kn : Int), .string nm, .slice na n1 nc, .slice aa n2 ac, .string p, .slice (some ⟨kb, ko, none⟩) 1 kc] 73)) ⟨0, 0, ⟨#[]⟩, 0, 0, []⟩ (.slice none 0 0)
 have N1 : Hid (Nod (w.heap.size + 1) ⟨0, 0, ⟨#[]⟩, 0, 0, []⟩ (.slice none 0 0) W1) := by
  show Nod _ _ _ _
  rw [hW1]
  simpa using N0
 have HB1 : Hid (Below w.heap.size w W1 ∧ W1.heap.size = w.heap.size + 2 ∧ W1.heap[w.heap.size]? = some (.cells #[.int .i64 (kn : Int), .string nm, .slice na n1 nc, .slice aa n2 ac, .string p, .slice (some ⟨kb, ko, none⟩) 1 kc] 73 (0, 0))) := ⟨hb1, hsz, bx⟩
 have HW := hidd hW1.symm
 have DW : Hid (∀ ok W, DE ok W dw none 0) := fun ok W => ⟨ZW.out.1, by rw [ZW.out.2]; exact Nat.le_refl 0, 0, ZW.out.2⟩
 have DP : Hid (∀ ok W, DE ok W dpp none 0) := fun ok W => ⟨ZP.out.1, by rw [ZP.out.2]; exact Nat.le_refl 0, 0, ZP.out.2⟩
 have PX : Hid (∀ u, Below W1.heap.size W1 u → Below w.heap.size w u ∧ u.heap[w.heap.size]? = some (.cells #[.int .i64 (kn : Int), .string nm, .slice na n1 nc, .slice aa n2 ac, .string p, .slice (some ⟨kb, ko, none⟩) 1 kc] 73 (0, 0))) := fun u hu => ⟨hb1.trans (hu.mono hb1.size), (hu.block _ (by omega)).trans bx⟩
 have m0 : W1.cell? ⟨w.heap.size, 0, none⟩ = some _ := (cellO bx).trans rfl
 have m5 : W1.cell? ⟨w.heap.size, 5, none⟩ = some _ := (cellO bx).trans rfl
 have d1 : (dp : Int) ≤ 12 := by omega
 have d2 : decide ((dp : Int) ≤ 12) = true := by simp; omega
 have k1 : ((kn : Int) == 1) = false := by simp; omega
 have k2 : decide ((kn : Int) = 1) = false := by simp; omega
 have k3 : decide ((2 : Int) ≤ (kn : Int)) = true := by simp; omega
 have k4 : decide ((kn : Int) ≤ 5) = true := by simp; omega
 have k5 : (2 : Int) ≤ (kn : Int) := by omega
 have k6 : (kn : Int) ≤ 5 := by omega
 have k7 : ¬ (kn : Int) = 1 := by omega
 have k8 : ¬ (6 : Int) ≤ (kn : Int) := by omega
 have k9 : (0 : Int) ≤ (kn : Int) := by omega
 have k10 : (kn : Int) < 6 := by omega
 have d0 : (0 : Int) ≤ (dp : Int) := by omega
 have w0 : IntKind.i64.wrap ((dp : Int) + 1) = (dp : Int) + 1 := by rw [IntKind.wrap_i64]; omega
 clear hW1 hb1 hsz bx N0
 go_enter Tryz.func87, Tryz.ntmps87
 go_upto_region 1 with fail
 rw [HW.out]
 clear HW
 go_wp2_with fail
 refine (MU.out W1 4).mono ?_
 rintro e w2 ⟨rfl, rfl⟩
 go_wp2_with fail
 refine (MU.out w2 1).mono ?_
 rintro e w3 ⟨rfl, rfl⟩
 go_wp2_with fail
 refine (MU.out w3 5).mono ?_
 rintro e w4 ⟨rfl, rfl⟩
 clear MU m0 m5
 go_upto_region 6 with fail
 go_cut [5] from 29 to 43 (fun s5 wx => ∃ O va vc es, s5 = .pointer (some ⟨O, 0, none⟩) ∧ wx.heap[O]? = some (.cells #[.int .i64 4, .int .i64 0, .string ⟨#[]⟩, .int .i64 0, .int .i64 0, .slice va es.length vc] 26 (0, 0)) ∧ RowE (fun b => w4.heap.size ≤ b ∧ b ≠ O) w4.heap.size (.slice va es.length vc) es wx ∧ (Value.slice va es.length vc).ownBlock ≠ some O ∧ es.map (·.1) = [dw, dx] ∧ es.length = 2 ∧ Below w4.heap.size w4 wx ∧ w4.heap.size ≤ O)
 case first =>
  refine wp_region_held_drew (S := fun u => Below w4.heap.size w4 u) (by kernel_rfl) (Below.drew (Below.refl _ _)) (fun hS => ?_)
  refine tk 0 (.pointer (some ⟨w.heap.size, 0, none⟩)) rfl (Or.inl ⟨by rfl, fun u hu => by go_simp⟩) hS ?_
  simp only [Act.put, List.setIfInBounds_toArray, List.set_cons_zero, List.set_cons_succ]
  refine tk 1 (.int .i64 (kn : Int)) rfl (Or.inl ⟨by rfl, fun u hu => by (have z0 := (show u.cell? ⟨w.heap.size, 0, none⟩ = some (.int .i64 (kn : Int)) from (cellO (PX.out u hu).2).trans rfl); go_simp)⟩) hS ?_
  simp only [Act.put, List.setIfInBounds_toArray, List.set_cons_zero, List.set_cons_succ]
  refine tk 2 (.pointer (some ⟨0, kn, none⟩)) rfl (Or.inl ⟨by rfl, fun u hu => by go_simp⟩) hS ?_
  simp only [Act.put, List.setIfInBounds_toArray, List.set_cons_zero, List.set_cons_succ]
  refine tk 3 (.string wd) rfl (Or.inl ⟨by rfl, fun u hu => by (have z0 := TW.out u (PX.out u hu).1; go_simp)⟩) hS ?_
  simp only [Act.put, List.setIfInBounds_toArray, List.set_cons_zero, List.set_cons_succ]
  refine tk 5 (.pointer (some ⟨w.heap.size, 5, none⟩)) rfl (Or.inl ⟨by rfl, fun u hu => by go_simp⟩) hS ?_
  simp only [Act.put, List.setIfInBounds_toArray, List.set_cons_zero, List.set_cons_succ]
  refine tk 6 (.slice (some ⟨kb, ko, none⟩) 1 kc) rfl (Or.inl ⟨by rfl, fun u hu => by (have z0 := (show u.cell? ⟨w.heap.size, 5, none⟩ = some (.slice (some ⟨kb, ko, none⟩) 1 kc) from (cellO (PX.out u hu).2).trans rfl); go_simp)⟩) hS ?_
  simp only [Act.put, List.setIfInBounds_toArray, List.set_cons_zero, List.set_cons_succ]
  refine tk 7 (.pointer (some ⟨kb, ko, none⟩)) rfl (Or.inl ⟨by rfl, fun u hu => by go_simp⟩) hS ?_
  simp only [Act.put, List.setIfInBounds_toArray, List.set_cons_zero, List.set_cons_succ]
  refine tk 8 (.agg #[.int .i64 xk, .string xnm, .slice xa xn xc, .slice xaa xan xac, .string xp, .slice xka xkn xkc]) rfl (Or.inl ⟨by rfl, fun u hu => by (obtain ⟨z0, z1, z2, z3, z4, z5⟩ := XC.out u (PX.out u hu).1; go_simp)⟩) hS ?_
  simp only [Act.put, List.setIfInBounds_toArray, List.set_cons_zero, List.set_cons_succ]
  refine tk 9 (.int .i64 (dp : Int)) rfl (Or.inl ⟨by rfl, fun u hu => by go_simp⟩) hS ?_
  simp only [Act.put, List.setIfInBounds_toArray, List.set_cons_zero, List.set_cons_succ]
  refine tk 10 (.int .i64 ((dp : Int) + 1)) rfl (Or.inl ⟨by rfl, fun u hu => by go_simp⟩) hS ?_
  simp only [Act.put, List.setIfInBounds_toArray, List.set_cons_zero, List.set_cons_succ]
  refine rdy [4, 14] (.cons rfl (fun K hK => ?_) (.cons rfl (fun K hK => ?_) .nil))
  ·go_simp
   refine Calls.mono (SYW.out w4.drew) ?_
   rintro e U1 ⟨rfl, hb1⟩
   have hS1 := hS.trans (hb1.mono hS.size)
   clear hb1
   try unfold dv
   show K _ U1
   refine hK.out _ _ hS1 (fun hS => ?_)
   clear hK K
   refine rdy [11, 14] (.cons rfl (fun K hK => ?_) (.cons rfl (fun K hK => ?_) .nil))
   ·go_simp
    refine Calls.mono (IC.out U1 (PX.out _ hS).1) ?_
    rintro e U2 ⟨hb2, qa, qc, rfl, hq2⟩
    have DQ_2 : Hid (DE (fun b => w4.heap.size ≤ b) U2 dx qa qc) := hq2.to (fun k hk _ => Nat.le_trans hS.size hk)
    have hS2 := hS.trans (hb2.mono hS.size)
    clear hb2 hq2
    try unfold dv
    show K _ U2
    refine hK.out _ _ hS2 (fun hS => ?_)
    clear hK K
    refine rdy [12, 14] (.cons rfl (fun K hK => ?_) (.cons rfl (fun K hK => ?_) .nil))
    ·go_simp
     have hb3 : Below U2.heap.size U2 (U2.alloc (.cells #[.int .i64 dx.kind, .int .i64 dx.n, .string dx.name, .int .i64 dx.stamp, .int .i64 dx.lib, .slice qa dx.kids.length qc] 26)) := (Below.refl _ _).alloc (Nat.le_refl _) _
     obtain ⟨sf3, hsf3⟩ := row_lie (fun b => w4.heap.size ≤ b) U2 [(dx, qa, qc)] (by simp) (by
      intro e he
      simp at he
      subst he
      exact DQ_2.out)
     have RS_3 : Hid (∃ f, Dc (fun b => (fun b => w4.heap.size ≤ b) b ∧ b < (U2.alloc (.cells #[.int .i64 dx.kind, .int .i64 dx.n, .string dx.name, .int .i64 dx.stamp, .int .i64 dx.lib, .slice qa dx.kids.length qc] 26)).heap.size) (U2.alloc (.cells #[.int .i64 dx.kind, .int .i64 dx.n, .string dx.name, .int .i64 dx.stamp, .int .i64 dx.lib, .slice qa dx.kids.length qc] 26)) f (some ⟨U2.heap.size, 0, none⟩) [dx]) := ⟨sf3, Dc.stay (fun _ _ => rfl) (fun k hk => ⟨hk.1.elim id (fun e => (by rw [e]; exact hS.size)), by have := hk.2; simpa using this⟩) _ _ _ hsf3⟩
     have hS3 := hS.trans (hb3.mono hS.size)
     clear hsf3
     change K _ (U2.alloc (.cells #[.int .i64 dx.kind, .int .i64 dx.n, .string dx.name, .int .i64 dx.stamp, .int .i64 dx.lib, .slice qa dx.kids.length qc] 26))
     generalize U2.alloc (.cells #[.int .i64 dx.kind, .int .i64 dx.n, .string dx.name, .int .i64 dx.stamp, .int .i64 dx.lib, .slice qa dx.kids.length qc] 26) = U3 at hb3 RS_3 hS3 ⊢
     have DQ_3 : Hid (DE (fun b => w4.heap.size ≤ b) U3 dx qa qc) := DQ_2.out.lift hb3
     clear hb3
     refine hK.out _ _ hS3 (fun hS => ?_)
     clear hK K
     refine rdy [13, 14] (.cons rfl (fun K hK => ?_) (.cons rfl (fun K hK => ?_) .nil))
     ·go_simp
      obtain ⟨sf, hsf⟩ := RS_3.out
      have QC := list66 (fun b => w4.heap.size ≤ b) dw none 0 [dx] (some ⟨U2.heap.size, 0, none⟩) 1 sf U3 (DW.out _ _) hsf (by simp)
      refine Calls.mono QC ?_
      clear QC hsf
      rintro e U4 ⟨hb4, va, vc, es, rfl, heq, hrq⟩
      have EQ : Hid (es.map (·.1) = [dw, dx] ∧ es.length = 2) := ⟨heq, by rw [← List.length_map (f := fun x : Dat × Option Addr × Nat => x.1), heq]; rfl⟩
      have RW_4 : Hid (RowE (fun b => w4.heap.size ≤ b) w4.heap.size (.slice va es.length vc) es U4) := (hrq.to (fun k hk _ => hk.1)).low hS.size
      have DQ_4 : Hid (DE (fun b => w4.heap.size ≤ b) U4 dx qa qc) := DQ_3.out.lift hb4
      have RS_4 : Hid (∃ f, Dc (fun b => (fun b => w4.heap.size ≤ b) b ∧ b < U4.heap.size) U4 f (some ⟨U2.heap.size, 0, none⟩) [dx]) := (by obtain ⟨f, hf⟩ := RS_3.out; exact ⟨f, Dc.stay (fun k hk => hb4.block k hk.2) (fun k hk => ⟨hk.1, Nat.lt_of_lt_of_le hk.2 hb4.size⟩) _ _ _ hf⟩)
      obtain ⟨m, hm⟩ : ∃ m, m = es.length := ⟨_, rfl⟩
      rw [← hm]
      have HM := hidd hm
      have hS4 := hS.trans (hb4.mono hS.size)
      clear hb4 heq hrq hm
      unfold dvK
      show K _ U4
      refine hK.out _ _ hS4 (fun hS => ?_)
      clear hK K
      refine rdy [14] (.cons rfl (fun K hK => ?_) .nil)
      go_simp
      have hb5 : Below U4.heap.size U4 (U4.alloc (.cells #[.int .i64 0, .int .i64 0, .string ⟨#[]⟩, .int .i64 0, .int .i64 0, .slice none 0 0] 26)) := (Below.refl _ _).alloc (Nat.le_refl _) _
      have hN5 : (U4.alloc (.cells #[.int .i64 0, .int .i64 0, .string ⟨#[]⟩, .int .i64 0, .int .i64 0, .slice none 0 0] 26)).heap[U4.heap.size]? = some (.cells #[.int .i64 0, .int .i64 0, .string ⟨#[]⟩, .int .i64 0, .int .i64 0, .slice none 0 0] 26 (0, 0)) := World.alloc_heap_new U4 _
      have hnb5 : w4.heap.size ≤ U4.heap.size := hS.size
      have DQ_5 : Hid (DE (fun b => w4.heap.size ≤ b ∧ b ≠ U4.heap.size) (U4.alloc (.cells #[.int .i64 0, .int .i64 0, .string ⟨#[]⟩, .int .i64 0, .int .i64 0, .slice none 0 0] 26)) dx qa qc) := (DQ_4.out.to (ok' := (fun b => w4.heap.size ≤ b ∧ b ≠ U4.heap.size)) (fun k h1 h2 => ⟨h1, Nat.ne_of_lt h2⟩)).lift hb5
      have RS_5 : Hid (∃ f, Dc (fun b => (fun b => w4.heap.size ≤ b ∧ b ≠ U4.heap.size) b ∧ b < (U4.alloc (.cells #[.int .i64 0, .int .i64 0, .string ⟨#[]⟩, .int .i64 0, .int .i64 0, .slice none 0 0] 26)).heap.size) (U4.alloc (.cells #[.int .i64 0, .int .i64 0, .string ⟨#[]⟩, .int .i64 0, .int .i64 0, .slice none 0 0] 26)) f (some ⟨U2.heap.size, 0, none⟩) [dx]) := by obtain ⟨f, hf⟩ := RS_4.out; exact ⟨f, Dc.stay (fun k hk => hb5.block k hk.2) (fun k hk => ⟨⟨hk.1, Nat.ne_of_lt hk.2⟩, Nat.lt_of_lt_of_le hk.2 hb5.size⟩) _ _ _ hf⟩
      have RW_5 : Hid (RowE (fun b => w4.heap.size ≤ b ∧ b ≠ U4.heap.size) w4.heap.size (.slice va es.length vc) es (U4.alloc (.cells #[.int .i64 0, .int .i64 0, .string ⟨#[]⟩, .int .i64 0, .int .i64 0, .slice none 0 0] 26))) := (RW_4.out.to (ok' := (fun b => w4.heap.size ≤ b ∧ b ≠ U4.heap.size)) (fun k h1 h2 => ⟨h1, Nat.ne_of_lt h2⟩)).below hb5
      have OW : Hid ((Value.slice va es.length vc).ownBlock ≠ some U4.heap.size) := fun e => by have h1 := (RW_4.out.own.lt _ e).2; omega
      have hS5 := hS.trans (hb5.mono hS.size)
      change K _ (U4.alloc (.cells #[.int .i64 0, .int .i64 0, .string ⟨#[]⟩, .int .i64 0, .int .i64 0, .slice none 0 0] 26))
      generalize U4.alloc (.cells #[.int .i64 0, .int .i64 0, .string ⟨#[]⟩, .int .i64 0, .int .i64 0, .slice none 0 0] 26) = U5 at hb5 hN5 hS5 DQ_5 RS_5 RW_5 ⊢
      have NO_5 : Hid (U5.heap[U4.heap.size]? = some (.cells #[.int .i64 0, .int .i64 0, .string ⟨#[]⟩, .int .i64 0, .int .i64 0, .slice none 0 0] 26 (0, 0)) ∧ w4.heap.size ≤ U4.heap.size) := ⟨hN5, hnb5⟩
      clear hb5 hN5 hnb5
      refine hK.out _ _ hS5 (fun hS => ?_)
      clear hK K
      refine rdy [15] (.cons rfl (fun K hK => ?_) .nil)
      have bxx := NO_5.out.1
      have q0 : U5.cell? ⟨U4.heap.size, 0, none⟩ = some _ := (cellO bxx).trans rfl
      have q1 : U5.cell? ⟨U4.heap.size, 1, none⟩ = some _ := (cellO bxx).trans rfl
      have q2 : U5.cell? ⟨U4.heap.size, 2, none⟩ = some _ := (cellO bxx).trans rfl
      have q3 : U5.cell? ⟨U4.heap.size, 3, none⟩ = some _ := (cellO bxx).trans rfl
      have q4 : U5.cell? ⟨U4.heap.size, 4, none⟩ = some _ := (cellO bxx).trans rfl
      have q5 : U5.cell? ⟨U4.heap.size, 5, none⟩ = some _ := (cellO bxx).trans rfl
      have z0 : U5.frozen? ⟨U4.heap.size, 0, none⟩ = false := by simp [World.frozen?, bxx]
      have z1 : U5.frozen? ⟨U4.heap.size, 1, none⟩ = false := by simp [World.frozen?, bxx]
      have z2 : U5.frozen? ⟨U4.heap.size, 2, none⟩ = false := by simp [World.frozen?, bxx]
      have z3 : U5.frozen? ⟨U4.heap.size, 3, none⟩ = false := by simp [World.frozen?, bxx]
      have z4 : U5.frozen? ⟨U4.heap.size, 4, none⟩ = false := by simp [World.frozen?, bxx]
      have z5 : U5.frozen? ⟨U4.heap.size, 5, none⟩ = false := by simp [World.frozen?, bxx]
      go_simp
      refine hK.out _ _ ((((((hS.setCell (p := ⟨U4.heap.size, 0, none⟩) NO_5.out.2 _).setCell (p := ⟨U4.heap.size, 1, none⟩) NO_5.out.2 _).setCell (p := ⟨U4.heap.size, 2, none⟩) NO_5.out.2 _).setCell (p := ⟨U4.heap.size, 3, none⟩) NO_5.out.2 _).setCell (p := ⟨U4.heap.size, 4, none⟩) NO_5.out.2 _).setCell (p := ⟨U4.heap.size, 5, none⟩) NO_5.out.2 _) (fun hS => ?_)
      clear hK K
      refine wpAnyH_done (by kernel_rfl) ?_ _
      clear q0 z0 q1 z1 q2 z2 q3 z3 q4 z4 q5 z5 bxx
      go_wp2_with fail
      go_meet
      case rel =>
       refine ⟨_, va, vc, es, rfl, ?_, RW_5.out.keep (((((((Keep.refl (U4.heap.size) U5).setCell ⟨U4.heap.size, 0, none⟩ rfl _).setCell ⟨U4.heap.size, 1, none⟩ rfl _).setCell ⟨U4.heap.size, 2, none⟩ rfl _).setCell ⟨U4.heap.size, 3, none⟩ rfl _).setCell ⟨U4.heap.size, 4, none⟩ rfl _).setCell ⟨U4.heap.size, 5, none⟩ rfl _) OW.out (fun k hk => hk.2), OW.out, EQ.out.1, EQ.out.2, hS, NO_5.out.2⟩
       have := set6 NO_5.out.1 (.int .i64 4) (.int .i64 0) (.string ⟨#[]⟩) (.int .i64 0) (.int .i64 0) (.slice va m vc)
       rw [HM.out] at this ⊢
       exact this
     ·go_simp
      have hb4 : Below U3.heap.size U3 (U3.alloc (.cells #[.int .i64 0, .int .i64 0, .string ⟨#[]⟩, .int .i64 0, .int .i64 0, .slice none 0 0] 26)) := (Below.refl _ _).alloc (Nat.le_refl _) _
      have hN4 : (U3.alloc (.cells #[.int .i64 0, .int .i64 0, .string ⟨#[]⟩, .int .i64 0, .int .i64 0, .slice none 0 0] 26)).heap[U3.heap.size]? = some (.cells #[.int .i64 0, .int .i64 0, .string ⟨#[]⟩, .int .i64 0, .int .i64 0, .slice none 0 0] 26 (0, 0)) := World.alloc_heap_new U3 _
      have hnb4 : w4.heap.size ≤ U3.heap.size := hS.size
      have DQ_4 : Hid (DE (fun b => w4.heap.size ≤ b ∧ b ≠ U3.heap.size) (U3.alloc (.cells #[.int .i64 0, .int .i64 0, .string ⟨#[]⟩, .int .i64 0, .int .i64 0, .slice none 0 0] 26)) dx qa qc) := (DQ_3.out.to (ok' := (fun b => w4.heap.size ≤ b ∧ b ≠ U3.heap.size)) (fun k h1 h2 => ⟨h1, Nat.ne_of_lt h2⟩)).lift hb4
      have RS_4 : Hid (∃ f, Dc (fun b => (fun b => w4.heap.size ≤ b ∧ b ≠ U3.heap.size) b ∧ b < (U3.alloc (.cells #[.int .i64 0, .int .i64 0, .string ⟨#[]⟩, .int .i64 0, .int .i64 0, .slice none 0 0] 26)).heap.size) (U3.alloc (.cells #[.int .i64 0, .int .i64 0, .string ⟨#[]⟩, .int .i64 0, .int .i64 0, .slice none 0 0] 26)) f (some ⟨U2.heap.size, 0, none⟩) [dx]) := by obtain ⟨f, hf⟩ := RS_3.out; exact ⟨f, Dc.stay (fun k hk => hb4.block k hk.2) (fun k hk => ⟨⟨hk.1, Nat.ne_of_lt hk.2⟩, Nat.lt_of_lt_of_le hk.2 hb4.size⟩) _ _ _ hf⟩
      have hS4 := hS.trans (hb4.mono hS.size)
      change K _ (U3.alloc (.cells #[.int .i64 0, .int .i64 0, .string ⟨#[]⟩, .int .i64 0, .int .i64 0, .slice none 0 0] 26))
      generalize U3.alloc (.cells #[.int .i64 0, .int .i64 0, .string ⟨#[]⟩, .int .i64 0, .int .i64 0, .slice none 0 0] 26) = U4 at hb4 hN4 hS4 DQ_4 RS_4 ⊢
      have NO_4 : Hid (U4.heap[U3.heap.size]? = some (.cells #[.int .i64 0, .int .i64 0, .string ⟨#[]⟩, .int .i64 0, .int .i64 0, .slice none 0 0] 26 (0, 0)) ∧ w4.heap.size ≤ U3.heap.size) := ⟨hN4, hnb4⟩
      clear hb4 hN4 hnb4
      refine hK.out _ _ hS4 (fun hS => ?_)
      clear hK K
      refine rdy [13] (.cons rfl (fun K hK => ?_) .nil)
      go_simp
      obtain ⟨sf, hsf⟩ := RS_4.out
      have QC := list66 (fun b => w4.heap.size ≤ b ∧ b ≠ U3.heap.size) dw none 0 [dx] (some ⟨U2.heap.size, 0, none⟩) 1 sf U4 (DW.out _ _) hsf (by simp)
      refine Calls.mono QC ?_
      clear QC hsf
      rintro e U5 ⟨hb5, va, vc, es, rfl, heq, hrq⟩
      have EQ : Hid (es.map (·.1) = [dw, dx] ∧ es.length = 2) := ⟨heq, by rw [← List.length_map (f := fun x : Dat × Option Addr × Nat => x.1), heq]; rfl⟩
      have RW_5 : Hid (RowE (fun b => w4.heap.size ≤ b ∧ b ≠ U3.heap.size) w4.heap.size (.slice va es.length vc) es U5) := (hrq.to (fun k hk _ => hk.1)).low hS.size
      have OW : Hid ((Value.slice va es.length vc).ownBlock ≠ some U3.heap.size) := fun e => by have h1 := (hrq.own.lt _ e).1; have h2 := (Array.getElem?_eq_some_iff.1 NO_4.out.1).1; omega
      have DQ_5 : Hid (DE (fun b => w4.heap.size ≤ b ∧ b ≠ U3.heap.size) U5 dx qa qc) := DQ_4.out.lift hb5
      have RS_5 : Hid (∃ f, Dc (fun b => (fun b => w4.heap.size ≤ b ∧ b ≠ U3.heap.size) b ∧ b < U5.heap.size) U5 f (some ⟨U2.heap.size, 0, none⟩) [dx]) := (by obtain ⟨f, hf⟩ := RS_4.out; exact ⟨f, Dc.stay (fun k hk => hb5.block k hk.2) (fun k hk => ⟨hk.1, Nat.lt_of_lt_of_le hk.2 hb5.size⟩) _ _ _ hf⟩)
      have NO_5 : Hid (U5.heap[U3.heap.size]? = some (.cells #[.int .i64 0, .int .i64 0, .string ⟨#[]⟩, .int .i64 0, .int .i64 0, .slice none 0 0] 26 (0, 0)) ∧ w4.heap.size ≤ U3.heap.size) := ⟨(hb5.block _ (Array.getElem?_eq_some_iff.1 NO_4.out.1).1).trans NO_4.out.1, NO_4.out.2⟩
      obtain ⟨m, hm⟩ : ∃ m, m = es.length := ⟨_, rfl⟩
      rw [← hm]
      have HM := hidd hm
      have hS5 := hS.trans (hb5.mono hS.size)
      clear hb5 heq hrq hm
      unfold dvK
      show K _ U5
      refine hK.out _ _ hS5 (fun hS => ?_)
      clear hK K
      refine rdy [15] (.cons rfl (fun K hK => ?_) .nil)
      have bxx := NO_5.out.1
      have q0 : U5.cell? ⟨U3.heap.size, 0, none⟩ = some _ := (cellO bxx).trans rfl
      have q1 : U5.cell? ⟨U3.heap.size, 1, none⟩ = some _ := (cellO bxx).trans rfl
      have q2 : U5.cell? ⟨U3.heap.size, 2, none⟩ = some _ := (cellO bxx).trans rfl
      have q3 : U5.cell? ⟨U3.heap.size, 3, none⟩ = some _ := (cellO bxx).trans rfl
      have q4 : U5.cell? ⟨U3.heap.size, 4, none⟩ = some _ := (cellO bxx).trans rfl
      have q5 : U5.cell? ⟨U3.heap.size, 5, none⟩ = some _ := (cellO bxx).trans rfl
      have z0 : U5.frozen? ⟨U3.heap.size, 0, none⟩ = false := by simp [World.frozen?, bxx]
      have z1 : U5.frozen? ⟨U3.heap.size, 1, none⟩ = false := by simp [World.frozen?, bxx]
      have z2 : U5.frozen? ⟨U3.heap.size, 2, none⟩ = false := by simp [World.frozen?, bxx]
      have z3 : U5.frozen? ⟨U3.heap.size, 3, none⟩ = false := by simp [World.frozen?, bxx]
      have z4 : U5.frozen? ⟨U3.heap.size, 4, none⟩ = false := by simp [World.frozen?, bxx]
      have z5 : U5.frozen? ⟨U3.heap.size, 5, none⟩ = false := by simp [World.frozen?, bxx]
      go_simp
      refine hK.out _ _ ((((((hS.setCell (p := ⟨U3.heap.size, 0, none⟩) NO_5.out.2 _).setCell (p := ⟨U3.heap.size, 1, none⟩) NO_5.out.2 _).setCell (p := ⟨U3.heap.size, 2, none⟩) NO_5.out.2 _).setCell (p := ⟨U3.heap.size, 3, none⟩) NO_5.out.2 _).setCell (p := ⟨U3.heap.size, 4, none⟩) NO_5.out.2 _).setCell (p := ⟨U3.heap.size, 5, none⟩) NO_5.out.2 _) (fun hS => ?_)
      clear hK K
      refine wpAnyH_done (by kernel_rfl) ?_ _
      clear q0 z0 q1 z1 q2 z2 q3 z3 q4 z4 q5 z5 bxx
      go_wp2_with fail
      go_meet
      case rel =>
       refine ⟨_, va, vc, es, rfl, ?_, RW_5.out.keep (((((((Keep.refl (U3.heap.size) U5).setCell ⟨U3.heap.size, 0, none⟩ rfl _).setCell ⟨U3.heap.size, 1, none⟩ rfl _).setCell ⟨U3.heap.size, 2, none⟩ rfl _).setCell ⟨U3.heap.size, 3, none⟩ rfl _).setCell ⟨U3.heap.size, 4, none⟩ rfl _).setCell ⟨U3.heap.size, 5, none⟩ rfl _) OW.out (fun k hk => hk.2), OW.out, EQ.out.1, EQ.out.2, hS, NO_5.out.2⟩
       have := set6 NO_5.out.1 (.int .i64 4) (.int .i64 0) (.string ⟨#[]⟩) (.int .i64 0) (.int .i64 0) (.slice va m vc)
       rw [HM.out] at this ⊢
       exact this
    ·go_simp
     have hb3 : Below U2.heap.size U2 (U2.alloc (.cells #[.int .i64 0, .int .i64 0, .string ⟨#[]⟩, .int .i64 0, .int .i64 0, .slice none 0 0] 26)) := (Below.refl _ _).alloc (Nat.le_refl _) _
     have hN3 : (U2.alloc (.cells #[.int .i64 0, .int .i64 0, .string ⟨#[]⟩, .int .i64 0, .int .i64 0, .slice none 0 0] 26)).heap[U2.heap.size]? = some (.cells #[.int .i64 0, .int .i64 0, .string ⟨#[]⟩, .int .i64 0, .int .i64 0, .slice none 0 0] 26 (0, 0)) := World.alloc_heap_new U2 _
     have hnb3 : w4.heap.size ≤ U2.heap.size := hS.size
     have DQ_3 : Hid (DE (fun b => w4.heap.size ≤ b ∧ b ≠ U2.heap.size) (U2.alloc (.cells #[.int .i64 0, .int .i64 0, .string ⟨#[]⟩, .int .i64 0, .int .i64 0, .slice none 0 0] 26)) dx qa qc) := (DQ_2.out.to (ok' := (fun b => w4.heap.size ≤ b ∧ b ≠ U2.heap.size)) (fun k h1 h2 => ⟨h1, Nat.ne_of_lt h2⟩)).lift hb3
     have hS3 := hS.trans (hb3.mono hS.size)
     change K _ (U2.alloc (.cells #[.int .i64 0, .int .i64 0, .string ⟨#[]⟩, .int .i64 0, .int .i64 0, .slice none 0 0] 26))
     generalize U2.alloc (.cells #[.int .i64 0, .int .i64 0, .string ⟨#[]⟩, .int .i64 0, .int .i64 0, .slice none 0 0] 26) = U3 at hb3 hN3 hS3 DQ_3 ⊢
     have NO_3 : Hid (U3.heap[U2.heap.size]? = some (.cells #[.int .i64 0, .int .i64 0, .string ⟨#[]⟩, .int .i64 0, .int .i64 0, .slice none 0 0] 26 (0, 0)) ∧ w4.heap.size ≤ U2.heap.size) := ⟨hN3, hnb3⟩
     clear hb3 hN3 hnb3
     refine hK.out _ _ hS3 (fun hS => ?_)
     clear hK K
     refine rdy [12] (.cons rfl (fun K hK => ?_) .nil)
     go_simp
     have hb4 : Below U3.heap.size U3 (U3.alloc (.cells #[.int .i64 dx.kind, .int .i64 dx.n, .string dx.name, .int .i64 dx.stamp, .int .i64 dx.lib, .slice qa dx.kids.length qc] 26)) := (Below.refl _ _).alloc (Nat.le_refl _) _
     obtain ⟨sf4, hsf4⟩ := row_lie (fun b => w4.heap.size ≤ b ∧ b ≠ U2.heap.size) U3 [(dx, qa, qc)] (by simp) (by
      intro e he
      simp at he
      subst he
      exact DQ_3.out)
     have RS_4 : Hid (∃ f, Dc (fun b => (fun b => w4.heap.size ≤ b ∧ b ≠ U2.heap.size) b ∧ b < (U3.alloc (.cells #[.int .i64 dx.kind, .int .i64 dx.n, .string dx.name, .int .i64 dx.stamp, .int .i64 dx.lib, .slice qa dx.kids.length qc] 26)).heap.size) (U3.alloc (.cells #[.int .i64 dx.kind, .int .i64 dx.n, .string dx.name, .int .i64 dx.stamp, .int .i64 dx.lib, .slice qa dx.kids.length qc] 26)) f (some ⟨U3.heap.size, 0, none⟩) [dx]) := ⟨sf4, Dc.stay (fun _ _ => rfl) (fun k hk => ⟨hk.1.elim id (fun e => (by rw [e]; exact ⟨hS.size, fun e2 => by have := (Array.getElem?_eq_some_iff.1 NO_3.out.1).1; omega⟩)), by have := hk.2; simpa using this⟩) _ _ _ hsf4⟩
     have hS4 := hS.trans (hb4.mono hS.size)
     clear hsf4
     change K _ (U3.alloc (.cells #[.int .i64 dx.kind, .int .i64 dx.n, .string dx.name, .int .i64 dx.stamp, .int .i64 dx.lib, .slice qa dx.kids.length qc] 26))
     generalize U3.alloc (.cells #[.int .i64 dx.kind, .int .i64 dx.n, .string dx.name, .int .i64 dx.stamp, .int .i64 dx.lib, .slice qa dx.kids.length qc] 26) = U4 at hb4 RS_4 hS4 ⊢
     have DQ_4 : Hid (DE (fun b => w4.heap.size ≤ b ∧ b ≠ U2.heap.size) U4 dx qa qc) := DQ_3.out.lift hb4
     have NO_4 : Hid (U4.heap[U2.heap.size]? = some (.cells #[.int .i64 0, .int .i64 0, .string ⟨#[]⟩, .int .i64 0, .int .i64 0, .slice none 0 0] 26 (0, 0)) ∧ w4.heap.size ≤ U2.heap.size) := ⟨(hb4.block _ (Array.getElem?_eq_some_iff.1 NO_3.out.1).1).trans NO_3.out.1, NO_3.out.2⟩
     clear hb4
     refine hK.out _ _ hS4 (fun hS => ?_)
     clear hK K
     refine rdy [13] (.cons rfl (fun K hK => ?_) .nil)
     go_simp
     obtain ⟨sf, hsf⟩ := RS_4.out
     have QC := list66 (fun b => w4.heap.size ≤ b ∧ b ≠ U2.heap.size) dw none 0 [dx] (some ⟨U3.heap.size, 0, none⟩) 1 sf U4 (DW.out _ _) hsf (by simp)
     refine Calls.mono QC ?_
     clear QC hsf
     rintro e U5 ⟨hb5, va, vc, es, rfl, heq, hrq⟩
     have EQ : Hid (es.map (·.1) = [dw, dx] ∧ es.length = 2) := ⟨heq, by rw [← List.length_map (f := fun x : Dat × Option Addr × Nat => x.1), heq]; rfl⟩
     have RW_5 : Hid (RowE (fun b => w4.heap.size ≤ b ∧ b ≠ U2.heap.size) w4.heap.size (.slice va es.length vc) es U5) := (hrq.to (fun k hk _ => hk.1)).low hS.size
     have OW : Hid ((Value.slice va es.length vc).ownBlock ≠ some U2.heap.size) := fun e => by have h1 := (hrq.own.lt _ e).1; have h2 := (Array.getElem?_eq_some_iff.1 NO_4.out.1).1; omega
     have DQ_5 : Hid (DE (fun b => w4.heap.size ≤ b ∧ b ≠ U2.heap.size) U5 dx qa qc) := DQ_4.out.lift hb5
     have NO_5 : Hid (U5.heap[U2.heap.size]? = some (.cells #[.int .i64 0, .int .i64 0, .string ⟨#[]⟩, .int .i64 0, .int .i64 0, .slice none 0 0] 26 (0, 0)) ∧ w4.heap.size ≤ U2.heap.size) := ⟨(hb5.block _ (Array.getElem?_eq_some_iff.1 NO_4.out.1).1).trans NO_4.out.1, NO_4.out.2⟩
     have RS_5 : Hid (∃ f, Dc (fun b => (fun b => w4.heap.size ≤ b ∧ b ≠ U2.heap.size) b ∧ b < U5.heap.size) U5 f (some ⟨U3.heap.size, 0, none⟩) [dx]) := (by obtain ⟨f, hf⟩ := RS_4.out; exact ⟨f, Dc.stay (fun k hk => hb5.block k hk.2) (fun k hk => ⟨hk.1, Nat.lt_of_lt_of_le hk.2 hb5.size⟩) _ _ _ hf⟩)
     obtain ⟨m, hm⟩ : ∃ m, m = es.length := ⟨_, rfl⟩
     rw [← hm]
     have HM := hidd hm
     have hS5 := hS.trans (hb5.mono hS.size)
     clear hb5 heq hrq hm
     unfold dvK
     show K _ U5
     refine hK.out _ _ hS5 (fun hS => ?_)
     clear hK K
     refine rdy [15] (.cons rfl (fun K hK => ?_) .nil)
     have bxx := NO_5.out.1
     have q0 : U5.cell? ⟨U2.heap.size, 0, none⟩ = some _ := (cellO bxx).trans rfl
     have q1 : U5.cell? ⟨U2.heap.size, 1, none⟩ = some _ := (cellO bxx).trans rfl
     have q2 : U5.cell? ⟨U2.heap.size, 2, none⟩ = some _ := (cellO bxx).trans rfl
     have q3 : U5.cell? ⟨U2.heap.size, 3, none⟩ = some _ := (cellO bxx).trans rfl
     have q4 : U5.cell? ⟨U2.heap.size, 4, none⟩ = some _ := (cellO bxx).trans rfl
     have q5 : U5.cell? ⟨U2.heap.size, 5, none⟩ = some _ := (cellO bxx).trans rfl
     have z0 : U5.frozen? ⟨U2.heap.size, 0, none⟩ = false := by simp [World.frozen?, bxx]
     have z1 : U5.frozen? ⟨U2.heap.size, 1, none⟩ = false := by simp [World.frozen?, bxx]
     have z2 : U5.frozen? ⟨U2.heap.size, 2, none⟩ = false := by simp [World.frozen?, bxx]
     have z3 : U5.frozen? ⟨U2.heap.size, 3, none⟩ = false := by simp [World.frozen?, bxx]
     have z4 : U5.frozen? ⟨U2.heap.size, 4, none⟩ = false := by simp [World.frozen?, bxx]
     have z5 : U5.frozen? ⟨U2.heap.size, 5, none⟩ = false := by simp [World.frozen?, bxx]
     go_simp
     refine hK.out _ _ ((((((hS.setCell (p := ⟨U2.heap.size, 0, none⟩) NO_5.out.2 _).setCell (p := ⟨U2.heap.size, 1, none⟩) NO_5.out.2 _).setCell (p := ⟨U2.heap.size, 2, none⟩) NO_5.out.2 _).setCell (p := ⟨U2.heap.size, 3, none⟩) NO_5.out.2 _).setCell (p := ⟨U2.heap.size, 4, none⟩) NO_5.out.2 _).setCell (p := ⟨U2.heap.size, 5, none⟩) NO_5.out.2 _) (fun hS => ?_)
     clear hK K
     refine wpAnyH_done (by kernel_rfl) ?_ _
     clear q0 z0 q1 z1 q2 z2 q3 z3 q4 z4 q5 z5 bxx
     go_wp2_with fail
     go_meet
     case rel =>
      refine ⟨_, va, vc, es, rfl, ?_, RW_5.out.keep (((((((Keep.refl (U2.heap.size) U5).setCell ⟨U2.heap.size, 0, none⟩ rfl _).setCell ⟨U2.heap.size, 1, none⟩ rfl _).setCell ⟨U2.heap.size, 2, none⟩ rfl _).setCell ⟨U2.heap.size, 3, none⟩ rfl _).setCell ⟨U2.heap.size, 4, none⟩ rfl _).setCell ⟨U2.heap.size, 5, none⟩ rfl _) OW.out (fun k hk => hk.2), OW.out, EQ.out.1, EQ.out.2, hS, NO_5.out.2⟩
      have := set6 NO_5.out.1 (.int .i64 4) (.int .i64 0) (.string ⟨#[]⟩) (.int .i64 0) (.int .i64 0) (.slice va m vc)
      rw [HM.out] at this ⊢
      exact this
   ·go_simp
    have hb2 : Below U1.heap.size U1 (U1.alloc (.cells #[.int .i64 0, .int .i64 0, .string ⟨#[]⟩, .int .i64 0, .int .i64 0, .slice none 0 0] 26)) := (Below.refl _ _).alloc (Nat.le_refl _) _
    have hN2 : (U1.alloc (.cells #[.int .i64 0, .int .i64 0, .string ⟨#[]⟩, .int .i64 0, .int .i64 0, .slice none 0 0] 26)).heap[U1.heap.size]? = some (.cells #[.int .i64 0, .int .i64 0, .string ⟨#[]⟩, .int .i64 0, .int .i64 0, .slice none 0 0] 26 (0, 0)) := World.alloc_heap_new U1 _
    have hnb2 : w4.heap.size ≤ U1.heap.size := hS.size
    have hS2 := hS.trans (hb2.mono hS.size)
    change K _ (U1.alloc (.cells #[.int .i64 0, .int .i64 0, .string ⟨#[]⟩, .int .i64 0, .int .i64 0, .slice none 0 0] 26))
    generalize U1.alloc (.cells #[.int .i64 0, .int .i64 0, .string ⟨#[]⟩, .int .i64 0, .int .i64 0, .slice none 0 0] 26) = U2 at hb2 hN2 hS2  ⊢
    have NO_2 : Hid (U2.heap[U1.heap.size]? = some (.cells #[.int .i64 0, .int .i64 0, .string ⟨#[]⟩, .int .i64 0, .int .i64 0, .slice none 0 0] 26 (0, 0)) ∧ w4.heap.size ≤ U1.heap.size) := ⟨hN2, hnb2⟩
    clear hb2 hN2 hnb2
    refine hK.out _ _ hS2 (fun hS => ?_)
    clear hK K
    refine rdy [11] (.cons rfl (fun K hK => ?_) .nil)
    go_simp
    refine Calls.mono (IC.out U2 (PX.out _ hS).1) ?_
    rintro e U3 ⟨hb3, qa, qc, rfl, hq3⟩
    have DQ_3 : Hid (DE (fun b => w4.heap.size ≤ b ∧ b ≠ U1.heap.size) U3 dx qa qc) := hq3.to (fun k hk _ => ⟨Nat.le_trans hS.size hk, fun e => by have := (Array.getElem?_eq_some_iff.1 NO_2.out.1).1; omega⟩)
    have NO_3 : Hid (U3.heap[U1.heap.size]? = some (.cells #[.int .i64 0, .int .i64 0, .string ⟨#[]⟩, .int .i64 0, .int .i64 0, .slice none 0 0] 26 (0, 0)) ∧ w4.heap.size ≤ U1.heap.size) := ⟨(hb3.block _ (Array.getElem?_eq_some_iff.1 NO_2.out.1).1).trans NO_2.out.1, NO_2.out.2⟩
    have hS3 := hS.trans (hb3.mono hS.size)
    clear hb3 hq3
    try unfold dv
    show K _ U3
    refine hK.out _ _ hS3 (fun hS => ?_)
    clear hK K
    refine rdy [12] (.cons rfl (fun K hK => ?_) .nil)
    go_simp
    have hb4 : Below U3.heap.size U3 (U3.alloc (.cells #[.int .i64 dx.kind, .int .i64 dx.n, .string dx.name, .int .i64 dx.stamp, .int .i64 dx.lib, .slice qa dx.kids.length qc] 26)) := (Below.refl _ _).alloc (Nat.le_refl _) _
    obtain ⟨sf4, hsf4⟩ := row_lie (fun b => w4.heap.size ≤ b ∧ b ≠ U1.heap.size) U3 [(dx, qa, qc)] (by simp) (by
     intro e he
     simp at he
     subst he
     exact DQ_3.out)
    have RS_4 : Hid (∃ f, Dc (fun b => (fun b => w4.heap.size ≤ b ∧ b ≠ U1.heap.size) b ∧ b < (U3.alloc (.cells #[.int .i64 dx.kind, .int .i64 dx.n, .string dx.name, .int .i64 dx.stamp, .int .i64 dx.lib, .slice qa dx.kids.length qc] 26)).heap.size) (U3.alloc (.cells #[.int .i64 dx.kind, .int .i64 dx.n, .string dx.name, .int .i64 dx.stamp, .int .i64 dx.lib, .slice qa dx.kids.length qc] 26)) f (some ⟨U3.heap.size, 0, none⟩) [dx]) := ⟨sf4, Dc.stay (fun _ _ => rfl) (fun k hk => ⟨hk.1.elim id (fun e => (by rw [e]; exact ⟨hS.size, fun e2 => by have := (Array.getElem?_eq_some_iff.1 NO_3.out.1).1; omega⟩)), by have := hk.2; simpa using this⟩) _ _ _ hsf4⟩
    have hS4 := hS.trans (hb4.mono hS.size)
    clear hsf4
    change K _ (U3.alloc (.cells #[.int .i64 dx.kind, .int .i64 dx.n, .string dx.name, .int .i64 dx.stamp, .int .i64 dx.lib, .slice qa dx.kids.length qc] 26))
    generalize U3.alloc (.cells #[.int .i64 dx.kind, .int .i64 dx.n, .string dx.name, .int .i64 dx.stamp, .int .i64 dx.lib, .slice qa dx.kids.length qc] 26) = U4 at hb4 RS_4 hS4 ⊢
    have NO_4 : Hid (U4.heap[U1.heap.size]? = some (.cells #[.int .i64 0, .int .i64 0, .string ⟨#[]⟩, .int .i64 0, .int .i64 0, .slice none 0 0] 26 (0, 0)) ∧ w4.heap.size ≤ U1.heap.size) := ⟨(hb4.block _ (Array.getElem?_eq_some_iff.1 NO_3.out.1).1).trans NO_3.out.1, NO_3.out.2⟩
    have DQ_4 : Hid (DE (fun b => w4.heap.size ≤ b ∧ b ≠ U1.heap.size) U4 dx qa qc) := DQ_3.out.lift hb4
    clear hb4
    refine hK.out _ _ hS4 (fun hS => ?_)
    clear hK K
    refine rdy [13] (.cons rfl (fun K hK => ?_) .nil)
    go_simp
    obtain ⟨sf, hsf⟩ := RS_4.out
    have QC := list66 (fun b => w4.heap.size ≤ b ∧ b ≠ U1.heap.size) dw none 0 [dx] (some ⟨U3.heap.size, 0, none⟩) 1 sf U4 (DW.out _ _) hsf (by simp)
    refine Calls.mono QC ?_
    clear QC hsf
    rintro e U5 ⟨hb5, va, vc, es, rfl, heq, hrq⟩
    have EQ : Hid (es.map (·.1) = [dw, dx] ∧ es.length = 2) := ⟨heq, by rw [← List.length_map (f := fun x : Dat × Option Addr × Nat => x.1), heq]; rfl⟩
    have RW_5 : Hid (RowE (fun b => w4.heap.size ≤ b ∧ b ≠ U1.heap.size) w4.heap.size (.slice va es.length vc) es U5) := (hrq.to (fun k hk _ => hk.1)).low hS.size
    have OW : Hid ((Value.slice va es.length vc).ownBlock ≠ some U1.heap.size) := fun e => by have h1 := (hrq.own.lt _ e).1; have h2 := (Array.getElem?_eq_some_iff.1 NO_4.out.1).1; omega
    have NO_5 : Hid (U5.heap[U1.heap.size]? = some (.cells #[.int .i64 0, .int .i64 0, .string ⟨#[]⟩, .int .i64 0, .int .i64 0, .slice none 0 0] 26 (0, 0)) ∧ w4.heap.size ≤ U1.heap.size) := ⟨(hb5.block _ (Array.getElem?_eq_some_iff.1 NO_4.out.1).1).trans NO_4.out.1, NO_4.out.2⟩
    have DQ_5 : Hid (DE (fun b => w4.heap.size ≤ b ∧ b ≠ U1.heap.size) U5 dx qa qc) := DQ_4.out.lift hb5
    have RS_5 : Hid (∃ f, Dc (fun b => (fun b => w4.heap.size ≤ b ∧ b ≠ U1.heap.size) b ∧ b < U5.heap.size) U5 f (some ⟨U3.heap.size, 0, none⟩) [dx]) := (by obtain ⟨f, hf⟩ := RS_4.out; exact ⟨f, Dc.stay (fun k hk => hb5.block k hk.2) (fun k hk => ⟨hk.1, Nat.lt_of_lt_of_le hk.2 hb5.size⟩) _ _ _ hf⟩)
    obtain ⟨m, hm⟩ : ∃ m, m = es.length := ⟨_, rfl⟩
    rw [← hm]
    have HM := hidd hm
    have hS5 := hS.trans (hb5.mono hS.size)
    clear hb5 heq hrq hm
    unfold dvK
    show K _ U5
    refine hK.out _ _ hS5 (fun hS => ?_)
    clear hK K
    refine rdy [15] (.cons rfl (fun K hK => ?_) .nil)
    have bxx := NO_5.out.1
    have q0 : U5.cell? ⟨U1.heap.size, 0, none⟩ = some _ := (cellO bxx).trans rfl
    have q1 : U5.cell? ⟨U1.heap.size, 1, none⟩ = some _ := (cellO bxx).trans rfl
    have q2 : U5.cell? ⟨U1.heap.size, 2, none⟩ = some _ := (cellO bxx).trans rfl
    have q3 : U5.cell? ⟨U1.heap.size, 3, none⟩ = some _ := (cellO bxx).trans rfl
    have q4 : U5.cell? ⟨U1.heap.size, 4, none⟩ = some _ := (cellO bxx).trans rfl
    have q5 : U5.cell? ⟨U1.heap.size, 5, none⟩ = some _ := (cellO bxx).trans rfl
    have z0 : U5.frozen? ⟨U1.heap.size, 0, none⟩ = false := by simp [World.frozen?, bxx]
    have z1 : U5.frozen? ⟨U1.heap.size, 1, none⟩ = false := by simp [World.frozen?, bxx]
    have z2 : U5.frozen? ⟨U1.heap.size, 2, none⟩ = false := by simp [World.frozen?, bxx]
    have z3 : U5.frozen? ⟨U1.heap.size, 3, none⟩ = false := by simp [World.frozen?, bxx]
    have z4 : U5.frozen? ⟨U1.heap.size, 4, none⟩ = false := by simp [World.frozen?, bxx]
    have z5 : U5.frozen? ⟨U1.heap.size, 5, none⟩ = false := by simp [World.frozen?, bxx]
    go_simp
    refine hK.out _ _ ((((((hS.setCell (p := ⟨U1.heap.size, 0, none⟩) NO_5.out.2 _).setCell (p := ⟨U1.heap.size, 1, none⟩) NO_5.out.2 _).setCell (p := ⟨U1.heap.size, 2, none⟩) NO_5.out.2 _).setCell (p := ⟨U1.heap.size, 3, none⟩) NO_5.out.2 _).setCell (p := ⟨U1.heap.size, 4, none⟩) NO_5.out.2 _).setCell (p := ⟨U1.heap.size, 5, none⟩) NO_5.out.2 _) (fun hS => ?_)
    clear hK K
    refine wpAnyH_done (by kernel_rfl) ?_ _
    clear q0 z0 q1 z1 q2 z2 q3 z3 q4 z4 q5 z5 bxx
    go_wp2_with fail
    go_meet
    case rel =>
     refine ⟨_, va, vc, es, rfl, ?_, RW_5.out.keep (((((((Keep.refl (U1.heap.size) U5).setCell ⟨U1.heap.size, 0, none⟩ rfl _).setCell ⟨U1.heap.size, 1, none⟩ rfl _).setCell ⟨U1.heap.size, 2, none⟩ rfl _).setCell ⟨U1.heap.size, 3, none⟩ rfl _).setCell ⟨U1.heap.size, 4, none⟩ rfl _).setCell ⟨U1.heap.size, 5, none⟩ rfl _) OW.out (fun k hk => hk.2), OW.out, EQ.out.1, EQ.out.2, hS, NO_5.out.2⟩
     have := set6 NO_5.out.1 (.int .i64 4) (.int .i64 0) (.string ⟨#[]⟩) (.int .i64 0) (.int .i64 0) (.slice va m vc)
     rw [HM.out] at this ⊢
     exact this
  ·go_simp
   have hb1 : Below w4.drew.heap.size w4.drew (w4.drew.alloc (.cells #[.int .i64 0, .int .i64 0, .string ⟨#[]⟩, .int .i64 0, .int .i64 0, .slice none 0 0] 26)) := (Below.refl _ _).alloc (Nat.le_refl _) _
   have hN1 : (w4.drew.alloc (.cells #[.int .i64 0, .int .i64 0, .string ⟨#[]⟩, .int .i64 0, .int .i64 0, .slice none 0 0] 26)).heap[w4.heap.size]? = some (.cells #[.int .i64 0, .int .i64 0, .string ⟨#[]⟩, .int .i64 0, .int .i64 0, .slice none 0 0] 26 (0, 0)) := World.alloc_heap_new w4.drew _
   have hnb1 : w4.heap.size ≤ w4.heap.size := hS.size
   have hS1 := hS.trans (hb1.mono hS.size)
   change K _ (w4.drew.alloc (.cells #[.int .i64 0, .int .i64 0, .string ⟨#[]⟩, .int .i64 0, .int .i64 0, .slice none 0 0] 26))
   generalize w4.drew.alloc (.cells #[.int .i64 0, .int .i64 0, .string ⟨#[]⟩, .int .i64 0, .int .i64 0, .slice none 0 0] 26) = U1 at hb1 hN1 hS1  ⊢
   have NO_1 : Hid (U1.heap[w4.heap.size]? = some (.cells #[.int .i64 0, .int .i64 0, .string ⟨#[]⟩, .int .i64 0, .int .i64 0, .slice none 0 0] 26 (0, 0)) ∧ w4.heap.size ≤ w4.heap.size) := ⟨hN1, hnb1⟩
   clear hb1 hN1 hnb1
   refine hK.out _ _ hS1 (fun hS => ?_)
   clear hK K
   refine rdy [4] (.cons rfl (fun K hK => ?_) .nil)
   go_simp
   refine Calls.mono (SYW.out U1) ?_
   rintro e U2 ⟨rfl, hb2⟩
   have NO_2 : Hid (U2.heap[w4.heap.size]? = some (.cells #[.int .i64 0, .int .i64 0, .string ⟨#[]⟩, .int .i64 0, .int .i64 0, .slice none 0 0] 26 (0, 0)) ∧ w4.heap.size ≤ w4.heap.size) := ⟨(hb2.block _ (Array.getElem?_eq_some_iff.1 NO_1.out.1).1).trans NO_1.out.1, NO_1.out.2⟩
   have hS2 := hS.trans (hb2.mono hS.size)
   clear hb2
   try unfold dv
   show K _ U2
   refine hK.out _ _ hS2 (fun hS => ?_)
   clear hK K
   refine rdy [11] (.cons rfl (fun K hK => ?_) .nil)
   go_simp
   refine Calls.mono (IC.out U2 (PX.out _ hS).1) ?_
   rintro e U3 ⟨hb3, qa, qc, rfl, hq3⟩
   have DQ_3 : Hid (DE (fun b => w4.heap.size ≤ b ∧ b ≠ w4.heap.size) U3 dx qa qc) := hq3.to (fun k hk _ => ⟨Nat.le_trans hS.size hk, fun e => by have := (Array.getElem?_eq_some_iff.1 NO_2.out.1).1; omega⟩)
   have NO_3 : Hid (U3.heap[w4.heap.size]? = some (.cells #[.int .i64 0, .int .i64 0, .string ⟨#[]⟩, .int .i64 0, .int .i64 0, .slice none 0 0] 26 (0, 0)) ∧ w4.heap.size ≤ w4.heap.size) := ⟨(hb3.block _ (Array.getElem?_eq_some_iff.1 NO_2.out.1).1).trans NO_2.out.1, NO_2.out.2⟩
   have hS3 := hS.trans (hb3.mono hS.size)
   clear hb3 hq3
   try unfold dv
   show K _ U3
   refine hK.out _ _ hS3 (fun hS => ?_)
   clear hK K
   refine rdy [12] (.cons rfl (fun K hK => ?_) .nil)
   go_simp
   have hb4 : Below U3.heap.size U3 (U3.alloc (.cells #[.int .i64 dx.kind, .int .i64 dx.n, .string dx.name, .int .i64 dx.stamp, .int .i64 dx.lib, .slice qa dx.kids.length qc] 26)) := (Below.refl _ _).alloc (Nat.le_refl _) _
   obtain ⟨sf4, hsf4⟩ := row_lie (fun b => w4.heap.size ≤ b ∧ b ≠ w4.heap.size) U3 [(dx, qa, qc)] (by simp) (by
    intro e he
    simp at he
    subst he
    exact DQ_3.out)
   have RS_4 : Hid (∃ f, Dc (fun b => (fun b => w4.heap.size ≤ b ∧ b ≠ w4.heap.size) b ∧ b < (U3.alloc (.cells #[.int .i64 dx.kind, .int .i64 dx.n, .string dx.name, .int .i64 dx.stamp, .int .i64 dx.lib, .slice qa dx.kids.length qc] 26)).heap.size) (U3.alloc (.cells #[.int .i64 dx.kind, .int .i64 dx.n, .string dx.name, .int .i64 dx.stamp, .int .i64 dx.lib, .slice qa dx.kids.length qc] 26)) f (some ⟨U3.heap.size, 0, none⟩) [dx]) := ⟨sf4, Dc.stay (fun _ _ => rfl) (fun k hk => ⟨hk.1.elim id (fun e => (by rw [e]; exact ⟨hS.size, fun e2 => by have := (Array.getElem?_eq_some_iff.1 NO_3.out.1).1; omega⟩)), by have := hk.2; simpa using this⟩) _ _ _ hsf4⟩
   have hS4 := hS.trans (hb4.mono hS.size)
   clear hsf4
   change K _ (U3.alloc (.cells #[.int .i64 dx.kind, .int .i64 dx.n, .string dx.name, .int .i64 dx.stamp, .int .i64 dx.lib, .slice qa dx.kids.length qc] 26))
   generalize U3.alloc (.cells #[.int .i64 dx.kind, .int .i64 dx.n, .string dx.name, .int .i64 dx.stamp, .int .i64 dx.lib, .slice qa dx.kids.length qc] 26) = U4 at hb4 RS_4 hS4 ⊢
   have NO_4 : Hid (U4.heap[w4.heap.size]? = some (.cells #[.int .i64 0, .int .i64 0, .string ⟨#[]⟩, .int .i64 0, .int .i64 0, .slice none 0 0] 26 (0, 0)) ∧ w4.heap.size ≤ w4.heap.size) := ⟨(hb4.block _ (Array.getElem?_eq_some_iff.1 NO_3.out.1).1).trans NO_3.out.1, NO_3.out.2⟩
   have DQ_4 : Hid (DE (fun b => w4.heap.size ≤ b ∧ b ≠ w4.heap.size) U4 dx qa qc) := DQ_3.out.lift hb4
   clear hb4
   refine hK.out _ _ hS4 (fun hS => ?_)
   clear hK K
   refine rdy [13] (.cons rfl (fun K hK => ?_) .nil)
   go_simp
   obtain ⟨sf, hsf⟩ := RS_4.out
   have QC := list66 (fun b => w4.heap.size ≤ b ∧ b ≠ w4.heap.size) dw none 0 [dx] (some ⟨U3.heap.size, 0, none⟩) 1 sf U4 (DW.out _ _) hsf (by simp)
   refine Calls.mono QC ?_
   clear QC hsf
   rintro e U5 ⟨hb5, va, vc, es, rfl, heq, hrq⟩
   have EQ : Hid (es.map (·.1) = [dw, dx] ∧ es.length = 2) := ⟨heq, by rw [← List.length_map (f := fun x : Dat × Option Addr × Nat => x.1), heq]; rfl⟩
   have RW_5 : Hid (RowE (fun b => w4.heap.size ≤ b ∧ b ≠ w4.heap.size) w4.heap.size (.slice va es.length vc) es U5) := (hrq.to (fun k hk _ => hk.1)).low hS.size
   have OW : Hid ((Value.slice va es.length vc).ownBlock ≠ some w4.heap.size) := fun e => by have h1 := (hrq.own.lt _ e).1; have h2 := (Array.getElem?_eq_some_iff.1 NO_4.out.1).1; omega
   have NO_5 : Hid (U5.heap[w4.heap.size]? = some (.cells #[.int .i64 0, .int .i64 0, .string ⟨#[]⟩, .int .i64 0, .int .i64 0, .slice none 0 0] 26 (0, 0)) ∧ w4.heap.size ≤ w4.heap.size) := ⟨(hb5.block _ (Array.getElem?_eq_some_iff.1 NO_4.out.1).1).trans NO_4.out.1, NO_4.out.2⟩
   have DQ_5 : Hid (DE (fun b => w4.heap.size ≤ b ∧ b ≠ w4.heap.size) U5 dx qa qc) := DQ_4.out.lift hb5
   have RS_5 : Hid (∃ f, Dc (fun b => (fun b => w4.heap.size ≤ b ∧ b ≠ w4.heap.size) b ∧ b < U5.heap.size) U5 f (some ⟨U3.heap.size, 0, none⟩) [dx]) := (by obtain ⟨f, hf⟩ := RS_4.out; exact ⟨f, Dc.stay (fun k hk => hb5.block k hk.2) (fun k hk => ⟨hk.1, Nat.lt_of_lt_of_le hk.2 hb5.size⟩) _ _ _ hf⟩)
   obtain ⟨m, hm⟩ : ∃ m, m = es.length := ⟨_, rfl⟩
   rw [← hm]
   have HM := hidd hm
   have hS5 := hS.trans (hb5.mono hS.size)
   clear hb5 heq hrq hm
   unfold dvK
   show K _ U5
   refine hK.out _ _ hS5 (fun hS => ?_)
   clear hK K
   refine rdy [15] (.cons rfl (fun K hK => ?_) .nil)
   have bxx := NO_5.out.1
   have q0 : U5.cell? ⟨w4.heap.size, 0, none⟩ = some _ := (cellO bxx).trans rfl
   have q1 : U5.cell? ⟨w4.heap.size, 1, none⟩ = some _ := (cellO bxx).trans rfl
   have q2 : U5.cell? ⟨w4.heap.size, 2, none⟩ = some _ := (cellO bxx).trans rfl
   have q3 : U5.cell? ⟨w4.heap.size, 3, none⟩ = some _ := (cellO bxx).trans rfl
   have q4 : U5.cell? ⟨w4.heap.size, 4, none⟩ = some _ := (cellO bxx).trans rfl
   have q5 : U5.cell? ⟨w4.heap.size, 5, none⟩ = some _ := (cellO bxx).trans rfl
   have z0 : U5.frozen? ⟨w4.heap.size, 0, none⟩ = false := by simp [World.frozen?, bxx]
   have z1 : U5.frozen? ⟨w4.heap.size, 1, none⟩ = false := by simp [World.frozen?, bxx]
   have z2 : U5.frozen? ⟨w4.heap.size, 2, none⟩ = false := by simp [World.frozen?, bxx]
   have z3 : U5.frozen? ⟨w4.heap.size, 3, none⟩ = false := by simp [World.frozen?, bxx]
   have z4 : U5.frozen? ⟨w4.heap.size, 4, none⟩ = false := by simp [World.frozen?, bxx]
   have z5 : U5.frozen? ⟨w4.heap.size, 5, none⟩ = false := by simp [World.frozen?, bxx]
   go_simp
   refine hK.out _ _ ((((((hS.setCell (p := ⟨w4.heap.size, 0, none⟩) NO_5.out.2 _).setCell (p := ⟨w4.heap.size, 1, none⟩) NO_5.out.2 _).setCell (p := ⟨w4.heap.size, 2, none⟩) NO_5.out.2 _).setCell (p := ⟨w4.heap.size, 3, none⟩) NO_5.out.2 _).setCell (p := ⟨w4.heap.size, 4, none⟩) NO_5.out.2 _).setCell (p := ⟨w4.heap.size, 5, none⟩) NO_5.out.2 _) (fun hS => ?_)
   clear hK K
   refine wpAnyH_done (by kernel_rfl) ?_ _
   clear q0 z0 q1 z1 q2 z2 q3 z3 q4 z4 q5 z5 bxx
   go_wp2_with fail
   go_meet
   case rel =>
    refine ⟨_, va, vc, es, rfl, ?_, RW_5.out.keep (((((((Keep.refl (w4.heap.size) U5).setCell ⟨w4.heap.size, 0, none⟩ rfl _).setCell ⟨w4.heap.size, 1, none⟩ rfl _).setCell ⟨w4.heap.size, 2, none⟩ rfl _).setCell ⟨w4.heap.size, 3, none⟩ rfl _).setCell ⟨w4.heap.size, 4, none⟩ rfl _).setCell ⟨w4.heap.size, 5, none⟩ rfl _) OW.out (fun k hk => hk.2), OW.out, EQ.out.1, EQ.out.2, hS, NO_5.out.2⟩
    have := set6 NO_5.out.1 (.int .i64 4) (.int .i64 0) (.string ⟨#[]⟩) (.int .i64 0) (.int .i64 0) (.slice va m vc)
    rw [HM.out] at this ⊢
    exact this
 case rest =>
  obtain ⟨O, va, vc, es, rfl, hox, hrw, how, hem, hel, hbw, hO⟩ := hcut
  have HC0 : Hid (wc.heap[O]? = some (.cells #[.int .i64 4, .int .i64 0, .string ⟨#[]⟩, .int .i64 0, .int .i64 0, .slice va es.length vc] 26 (0, 0)) ∧ RowE (fun b => w4.heap.size ≤ b ∧ b ≠ O) w4.heap.size (.slice va es.length vc) es wc ∧ (Value.slice va es.length vc).ownBlock ≠ some O ∧ es.map (·.1) = [dw, dx] ∧ es.length = 2 ∧ Below w4.heap.size w4 wc ∧ w4.heap.size ≤ O) := ⟨hox, hrw, how, hem, hel, hbw, hO⟩
  have px := (PX.out wc hbw).2
  have r0 : wc.cell? ⟨w.heap.size, 0, none⟩ = some _ := (cellO px).trans rfl
  clear hox hrw how hem hel hbw hO px SYW IC TW XC
  by_cases h2 : kn = 2
  ·have e2 : ((kn : Int) == 2) = true := by simp; omega
   have f2 : decide ((kn : Int) = 2) = true := by simp; omega
   have e3 : ((kn : Int) == 3) = false := by simp; omega
   have f3 : decide ((kn : Int) = 3) = false := by simp; omega
   have e4 : ((kn : Int) == 4) = false := by simp; omega
   have f4 : decide ((kn : Int) = 4) = false := by simp; omega
   have e5 : ((kn : Int) == 5) = false := by simp; omega
   have f5 : decide ((kn : Int) = 5) = false := by simp; omega
   obtain ⟨m, hm⟩ : ∃ m, m = es.length := ⟨_, rfl⟩
   have OX_0 : Hid (wc.drew.heap[O]? = some (.cells #[.int .i64 4, .int .i64 0, .string ⟨#[]⟩, .int .i64 0, .int .i64 0, .slice va m vc] 26 (0, 0)) ∧ O < wc.drew.heap.size) := ⟨by rw [hm]; exact HC0.out.1, (Array.getElem?_eq_some_iff.1 HC0.out.1).1⟩
   have RW_0 : Hid (RowE (fun b => w4.heap.size ≤ b ∧ b ≠ O) w4.heap.size (.slice va m vc) es wc.drew) := by
    rw [hm]
    exact HC0.out.2.1.below (Below.drew (Below.refl _ _))
   have OWW : Hid (True ∧ m = es.length) := ⟨trivial, hm⟩
   have HLL : Hid (rest = ns.map syD) := R23.out (by omega)
   have LEN2 : Hid (rest.length ≤ 100000) := by
    have h1 := LEN.out
    show rest.length ≤ 100000
    rw [HLL.out]
    exact h1.1
   clear hm
   rw [← HLL.out] at SNS
   go_upto_region 10 with fail
   clear r0
   refine wp_region_held_drew (S := fun u => Below w4.heap.size w4 u ∧ wc.heap.size ≤ u.heap.size) (by kernel_rfl) ⟨HC0.out.2.2.2.2.2.1.drew, Nat.le_refl _⟩ (fun hS => ?_)
   refine tk 0 (.pointer (some ⟨O, 5, none⟩)) rfl (Or.inl ⟨by rfl, fun u hu => by go_simp⟩) hS ?_
   simp only [Act.put, List.setIfInBounds_toArray, List.set_cons_zero, List.set_cons_succ]
   refine tk 2 (.pointer (some ⟨w.heap.size, 2, none⟩)) rfl (Or.inl ⟨by rfl, fun u hu => by go_simp⟩) hS ?_
   simp only [Act.put, List.setIfInBounds_toArray, List.set_cons_zero, List.set_cons_succ]
   refine tk 3 (.slice na n1 nc) rfl (Or.inl ⟨by rfl, fun u hu => by (have z0 := (show u.cell? ⟨w.heap.size, 2, none⟩ = some (.slice na n1 nc) from (cellO (PX.out u hu.1).2).trans rfl); go_simp)⟩) hS ?_
   simp only [Act.put, List.setIfInBounds_toArray, List.set_cons_zero, List.set_cons_succ]
   refine rdy [1, 4] (.cons rfl (fun K hK => ?_) (.cons rfl (fun K hK => ?_) .nil))
   ·have z0 : wc.drew.cell? ⟨O, 5, none⟩ = some (.slice va m vc) := (cellO OX_0.out.1).trans rfl
    go_simp
    refine hK.out _ _ hS (fun hS => ?_)
    clear hK K z0
    refine rdy [4] (.cons rfl (fun K hK => ?_) .nil)
    go_simp
    refine Calls.mono (SNS.out wc.drew (PX.out _ hS.1).1) ?_
    rintro e U1 ⟨hb1, ra, rc, er, rfl, her, hre⟩
    obtain ⟨ra2, rc2, rf, hrv, hrc, hrd⟩ := hre.lie (ok' := fun b => wc.heap.size ≤ b) (by have h1 := congrArg List.length her; rw [List.length_map] at h1; have h2 := LEN2.out; omega) (fun k hk => Nat.le_trans hS.2 hk) (fun k hk _ => Nat.le_trans hS.2 hk)
    rw [her] at hrv hrd
    simp only [Value.slice.injEq] at hrv
    obtain ⟨rfl, hrl, rfl⟩ := hrv
    have SR_1 : Hid (∃ f, Dc (fun b => wc.heap.size ≤ b ∧ b < U1.heap.size) U1 f ra rest) := ⟨rf, hrd⟩
    have OX_1 : Hid (U1.heap[O]? = some (.cells #[.int .i64 4, .int .i64 0, .string ⟨#[]⟩, .int .i64 0, .int .i64 0, .slice va m vc] 26 (0, 0)) ∧ O < U1.heap.size) := ⟨(hb1.block _ OX_0.out.2).trans OX_0.out.1, Nat.lt_of_lt_of_le OX_0.out.2 hb1.size⟩
    have RW_1 : Hid (RowE (fun b => w4.heap.size ≤ b ∧ b ≠ O) w4.heap.size (.slice va m vc) es U1) := RW_0.out.below hb1
    rw [hrl]
    have hS1 := And.intro (hS.1.trans (hb1.mono hS.1.size)) (Nat.le_trans hS.2 hb1.size)
    clear hb1 her hre hrc hrd hrl
    show K _ U1
    refine hK.out _ _ hS1 (fun hS => ?_)
    clear hK K
    refine rdy [5] (.cons rfl (fun K hK => ?_) .nil)
    obtain ⟨tf, htf⟩ := SR_1.out
    have hRW := RW_1.out
    rw [OWW.out.2] at hRW
    refine step_rowE rfl (.tmp 49) (.tmp 52) rfl (w := U1) (ok := fun b => w4.heap.size ≤ b ∧ b ≠ O) (B := w4.heap.size) (v := .slice va es.length vc) (es := es) hRW (F := tf) (a := ra) (l := rest) (cap := rc) (by rw [← OWW.out.2]; rfl) rfl (Dc.stay (fun _ _ => rfl) (fun k hk => ⟨⟨Nat.le_trans HC0.out.2.2.2.2.2.1.size hk.1, by have := (Array.getElem?_eq_some_iff.1 HC0.out.1).1; have := hk.1; omega⟩, hk.2, fun e => by have h1 := (HC0.out.2.1.own.lt k e.symm).2; have := hk.1; omega⟩) _ _ _ htf) hS.1.size (by have h1 := HC0.out.2.2.2.2.1; have h2 := LEN2.out; omega) ?_
    intro v' U2 fs hfs hr hb hwo hg
    have OX_2 : Hid (U2.heap[O]? = some (.cells #[.int .i64 4, .int .i64 0, .string ⟨#[]⟩, .int .i64 0, .int .i64 0, .slice va m vc] 26 (0, 0)) ∧ O < U2.heap.size) := ⟨(hg.block _ OX_1.out.2 (fun e => HC0.out.2.2.1 e.symm)).trans OX_1.out.1, Nat.lt_of_lt_of_le OX_1.out.2 hb.size⟩
    have hS2 : Below w4.heap.size w4 U2 ∧ wc.heap.size ≤ U2.heap.size := ⟨hS.1.trans hb, Nat.le_trans hS.2 hb.size⟩
    obtain ⟨es', hes'⟩ : ∃ es', es' = es ++ fs := ⟨_, rfl⟩
    rw [← hes'] at hr
    obtain ⟨va', vc', rfl, hvc'⟩ := own_sliceL hr.own
    have RR : Hid (RowE (fun b => w4.heap.size ≤ b ∧ b ≠ O) w4.heap.size (.slice va' es'.length vc') es' U2 ∧ (Value.slice va' es'.length vc').ownBlock ≠ some O ∧ es'.map (·.1) = dw :: dx :: rest ∧ es'.length ≤ 200000) := by
     have hem : es'.map (·.1) = dw :: dx :: rest := by rw [hes', List.map_append, HC0.out.2.2.2.1, hfs]; rfl
     refine ⟨hr, fun e => ?_, hem, ?_⟩
     ·rcases hwo with h | h
      ·exact HC0.out.2.2.1 (h.symm.trans e)
      ·have h2 := Option.some.inj (h.symm.trans e); have h3 := OX_1.out.2; omega
     ·have h1 := congrArg List.length hem; rw [List.length_map] at h1; have h2 := LEN2.out; simp only [List.length_cons] at h1; omega
    obtain ⟨m', hm'⟩ : ∃ m', m' = es'.length := ⟨_, rfl⟩
    rw [← hm']
    have HM := hidd hm'
    clear hfs hr hb hwo hg htf hRW hvc' hes' hm'
    show K _ U2
    refine hK.out _ _ hS2 (fun hS => ?_)
    clear hK K
    refine tk 6 (.pointer (some ⟨O, 5, none⟩)) rfl (Or.inl ⟨by rfl, fun u hu => by go_simp⟩) hS ?_
    simp only [Act.put, List.setIfInBounds_toArray, List.set_cons_zero, List.set_cons_succ]
    refine rdy [7] (.cons rfl (fun K hK => ?_) .nil)
    have q0 : U2.cell? ⟨O, 5, none⟩ = some _ := (cellO OX_2.out.1).trans rfl
    have z0 : U2.frozen? ⟨O, 5, none⟩ = false := by simp [World.frozen?, OX_2.out.1]
    go_simp
    refine hK.out _ _ ⟨hS.1.setCell (p := ⟨O, 5, none⟩) HC0.out.2.2.2.2.2.2 _, by simpa using hS.2⟩ (fun hS => ?_)
    clear hK K
    refine wpAnyH_done (by kernel_rfl) ?_ _
    clear q0 z0
    have hoy := (cell_setL OX_2.out.1 (.slice va' m' vc') : (U2.setCell ⟨O, 5, none⟩ (.slice va' m' vc')).heap[O]? = some (.cells #[.int .i64 4, .int .i64 0, .string ⟨#[]⟩, .int .i64 0, .int .i64 0, .slice va' m' vc'] 26 (0, 0)))
    have FIN : Hid ((U2.setCell ⟨O, 5, none⟩ (.slice va' m' vc')).heap[O]? = some (.cells #[.int .i64 4, .int .i64 0, .string ⟨#[]⟩, .int .i64 0, .int .i64 0, .slice va' m' vc'] 26 (0, 0)) ∧ RowE (fun b => w4.heap.size ≤ b ∧ b ≠ O) w4.heap.size (.slice va' es'.length vc') es' (U2.setCell ⟨O, 5, none⟩ (.slice va' m' vc')) ∧ Below w4.heap.size w4 (U2.setCell ⟨O, 5, none⟩ (.slice va' m' vc'))) := ⟨hoy, RR.out.1.keep ((Keep.refl O U2).setCell ⟨O, 5, none⟩ rfl _) RR.out.2.1 (fun k hk => hk.2), hS.1⟩
    clear hoy hS
    generalize (U2.setCell ⟨O, 5, none⟩ (.slice va' m' vc')) = wf at FIN ⊢
    have N3 := N1.out.after FIN.out.2.2
    have NH := hidd N3
    obtain ⟨q, q0, q1, q2, q3, q4, q5, qz⟩ := N3
    simp only at q0 q1 q2 q3 q4 q5
    have p0 : wf.cell? ⟨O, 0, none⟩ = some _ := (cellO FIN.out.1).trans rfl
    have p1 : wf.cell? ⟨O, 1, none⟩ = some _ := (cellO FIN.out.1).trans rfl
    have p2 : wf.cell? ⟨O, 2, none⟩ = some _ := (cellO FIN.out.1).trans rfl
    have p3 : wf.cell? ⟨O, 3, none⟩ = some _ := (cellO FIN.out.1).trans rfl
    have p4 : wf.cell? ⟨O, 4, none⟩ = some _ := (cellO FIN.out.1).trans rfl
    have p5 : wf.cell? ⟨O, 5, none⟩ = some _ := (cellO FIN.out.1).trans rfl
    go_wp2_with fail
    have hl : m' = (dw :: dx :: rest).length := by rw [HM.out, ← RR.out.2.2.1, List.length_map]
    refine bodyPost_ret (ret87 (NH.out.store (liD (dw :: dx :: rest)) (.slice va' m' vc')) rfl) rfl ?_
    refine ⟨below_sixN (HB1.out.1.trans (FIN.out.2.2.mono HB1.out.1.size)) (Nat.le_succ _) _ _ _ _ _ _, va', vc', by rw [hl]; rfl, ?_⟩
    have hr := FIN.out.2.1
    have hz := HB1.out.2.1
    rw [← HM.out] at hr
    exact rowE_tell ((hr.keep (((((((Keep.refl (w.heap.size + 1) wf).setCell ⟨w.heap.size + 1, 0, none⟩ rfl _).setCell ⟨w.heap.size + 1, 1, none⟩ rfl _).setCell ⟨w.heap.size + 1, 2, none⟩ rfl _).setCell ⟨w.heap.size + 1, 3, none⟩ rfl _).setCell ⟨w.heap.size + 1, 4, none⟩ rfl _).setCell ⟨w.heap.size + 1, 5, none⟩ rfl _) (fun e => by have h3 := (hr.own.lt _ e).1; omega) (fun k hk => by omega)).low (B' := w.heap.size) (by omega)) HM.out RR.out.2.2.1 (Nat.le_refl _) (fun k hk => by omega) RR.out.2.2.2
   ·go_simp
    refine Calls.mono (SNS.out wc.drew (PX.out _ hS.1).1) ?_
    rintro e U1 ⟨hb1, ra, rc, er, rfl, her, hre⟩
    obtain ⟨ra2, rc2, rf, hrv, hrc, hrd⟩ := hre.lie (ok' := fun b => wc.heap.size ≤ b) (by have h1 := congrArg List.length her; rw [List.length_map] at h1; have h2 := LEN2.out; omega) (fun k hk => Nat.le_trans hS.2 hk) (fun k hk _ => Nat.le_trans hS.2 hk)
    rw [her] at hrv hrd
    simp only [Value.slice.injEq] at hrv
    obtain ⟨rfl, hrl, rfl⟩ := hrv
    have SR_1 : Hid (∃ f, Dc (fun b => wc.heap.size ≤ b ∧ b < U1.heap.size) U1 f ra rest) := ⟨rf, hrd⟩
    have OX_1 : Hid (U1.heap[O]? = some (.cells #[.int .i64 4, .int .i64 0, .string ⟨#[]⟩, .int .i64 0, .int .i64 0, .slice va m vc] 26 (0, 0)) ∧ O < U1.heap.size) := ⟨(hb1.block _ OX_0.out.2).trans OX_0.out.1, Nat.lt_of_lt_of_le OX_0.out.2 hb1.size⟩
    have RW_1 : Hid (RowE (fun b => w4.heap.size ≤ b ∧ b ≠ O) w4.heap.size (.slice va m vc) es U1) := RW_0.out.below hb1
    rw [hrl]
    have hS1 := And.intro (hS.1.trans (hb1.mono hS.1.size)) (Nat.le_trans hS.2 hb1.size)
    clear hb1 her hre hrc hrd hrl
    show K _ U1
    refine hK.out _ _ hS1 (fun hS => ?_)
    clear hK K
    refine rdy [1] (.cons rfl (fun K hK => ?_) .nil)
    have z0 : U1.cell? ⟨O, 5, none⟩ = some (.slice va m vc) := (cellO OX_1.out.1).trans rfl
    go_simp
    refine hK.out _ _ hS (fun hS => ?_)
    clear hK K z0
    refine rdy [5] (.cons rfl (fun K hK => ?_) .nil)
    obtain ⟨tf, htf⟩ := SR_1.out
    have hRW := RW_1.out
    rw [OWW.out.2] at hRW
    refine step_rowE rfl (.tmp 49) (.tmp 52) rfl (w := U1) (ok := fun b => w4.heap.size ≤ b ∧ b ≠ O) (B := w4.heap.size) (v := .slice va es.length vc) (es := es) hRW (F := tf) (a := ra) (l := rest) (cap := rc) (by rw [← OWW.out.2]; rfl) rfl (Dc.stay (fun _ _ => rfl) (fun k hk => ⟨⟨Nat.le_trans HC0.out.2.2.2.2.2.1.size hk.1, by have := (Array.getElem?_eq_some_iff.1 HC0.out.1).1; have := hk.1; omega⟩, hk.2, fun e => by have h1 := (HC0.out.2.1.own.lt k e.symm).2; have := hk.1; omega⟩) _ _ _ htf) hS.1.size (by have h1 := HC0.out.2.2.2.2.1; have h2 := LEN2.out; omega) ?_
    intro v' U2 fs hfs hr hb hwo hg
    have OX_2 : Hid (U2.heap[O]? = some (.cells #[.int .i64 4, .int .i64 0, .string ⟨#[]⟩, .int .i64 0, .int .i64 0, .slice va m vc] 26 (0, 0)) ∧ O < U2.heap.size) := ⟨(hg.block _ OX_1.out.2 (fun e => HC0.out.2.2.1 e.symm)).trans OX_1.out.1, Nat.lt_of_lt_of_le OX_1.out.2 hb.size⟩
    have hS2 : Below w4.heap.size w4 U2 ∧ wc.heap.size ≤ U2.heap.size := ⟨hS.1.trans hb, Nat.le_trans hS.2 hb.size⟩
    obtain ⟨es', hes'⟩ : ∃ es', es' = es ++ fs := ⟨_, rfl⟩
    rw [← hes'] at hr
    obtain ⟨va', vc', rfl, hvc'⟩ := own_sliceL hr.own
    have RR : Hid (RowE (fun b => w4.heap.size ≤ b ∧ b ≠ O) w4.heap.size (.slice va' es'.length vc') es' U2 ∧ (Value.slice va' es'.length vc').ownBlock ≠ some O ∧ es'.map (·.1) = dw :: dx :: rest ∧ es'.length ≤ 200000) := by
     have hem : es'.map (·.1) = dw :: dx :: rest := by rw [hes', List.map_append, HC0.out.2.2.2.1, hfs]; rfl
     refine ⟨hr, fun e => ?_, hem, ?_⟩
     ·rcases hwo with h | h
      ·exact HC0.out.2.2.1 (h.symm.trans e)
      ·have h2 := Option.some.inj (h.symm.trans e); have h3 := OX_1.out.2; omega
     ·have h1 := congrArg List.length hem; rw [List.length_map] at h1; have h2 := LEN2.out; simp only [List.length_cons] at h1; omega
    obtain ⟨m', hm'⟩ : ∃ m', m' = es'.length := ⟨_, rfl⟩
    rw [← hm']
    have HM := hidd hm'
    clear hfs hr hb hwo hg htf hRW hvc' hes' hm'
    show K _ U2
    refine hK.out _ _ hS2 (fun hS => ?_)
    clear hK K
    refine tk 6 (.pointer (some ⟨O, 5, none⟩)) rfl (Or.inl ⟨by rfl, fun u hu => by go_simp⟩) hS ?_
    simp only [Act.put, List.setIfInBounds_toArray, List.set_cons_zero, List.set_cons_succ]
    refine rdy [7] (.cons rfl (fun K hK => ?_) .nil)
    have q0 : U2.cell? ⟨O, 5, none⟩ = some _ := (cellO OX_2.out.1).trans rfl
    have z0 : U2.frozen? ⟨O, 5, none⟩ = false := by simp [World.frozen?, OX_2.out.1]
    go_simp
    refine hK.out _ _ ⟨hS.1.setCell (p := ⟨O, 5, none⟩) HC0.out.2.2.2.2.2.2 _, by simpa using hS.2⟩ (fun hS => ?_)
    clear hK K
    refine wpAnyH_done (by kernel_rfl) ?_ _
    clear q0 z0
    have hoy := (cell_setL OX_2.out.1 (.slice va' m' vc') : (U2.setCell ⟨O, 5, none⟩ (.slice va' m' vc')).heap[O]? = some (.cells #[.int .i64 4, .int .i64 0, .string ⟨#[]⟩, .int .i64 0, .int .i64 0, .slice va' m' vc'] 26 (0, 0)))
    have FIN : Hid ((U2.setCell ⟨O, 5, none⟩ (.slice va' m' vc')).heap[O]? = some (.cells #[.int .i64 4, .int .i64 0, .string ⟨#[]⟩, .int .i64 0, .int .i64 0, .slice va' m' vc'] 26 (0, 0)) ∧ RowE (fun b => w4.heap.size ≤ b ∧ b ≠ O) w4.heap.size (.slice va' es'.length vc') es' (U2.setCell ⟨O, 5, none⟩ (.slice va' m' vc')) ∧ Below w4.heap.size w4 (U2.setCell ⟨O, 5, none⟩ (.slice va' m' vc'))) := ⟨hoy, RR.out.1.keep ((Keep.refl O U2).setCell ⟨O, 5, none⟩ rfl _) RR.out.2.1 (fun k hk => hk.2), hS.1⟩
    clear hoy hS
    generalize (U2.setCell ⟨O, 5, none⟩ (.slice va' m' vc')) = wf at FIN ⊢
    have N3 := N1.out.after FIN.out.2.2
    have NH := hidd N3
    obtain ⟨q, q0, q1, q2, q3, q4, q5, qz⟩ := N3
    simp only at q0 q1 q2 q3 q4 q5
    have p0 : wf.cell? ⟨O, 0, none⟩ = some _ := (cellO FIN.out.1).trans rfl
    have p1 : wf.cell? ⟨O, 1, none⟩ = some _ := (cellO FIN.out.1).trans rfl
    have p2 : wf.cell? ⟨O, 2, none⟩ = some _ := (cellO FIN.out.1).trans rfl
    have p3 : wf.cell? ⟨O, 3, none⟩ = some _ := (cellO FIN.out.1).trans rfl
    have p4 : wf.cell? ⟨O, 4, none⟩ = some _ := (cellO FIN.out.1).trans rfl
    have p5 : wf.cell? ⟨O, 5, none⟩ = some _ := (cellO FIN.out.1).trans rfl
    go_wp2_with fail
    have hl : m' = (dw :: dx :: rest).length := by rw [HM.out, ← RR.out.2.2.1, List.length_map]
    refine bodyPost_ret (ret87 (NH.out.store (liD (dw :: dx :: rest)) (.slice va' m' vc')) rfl) rfl ?_
    refine ⟨below_sixN (HB1.out.1.trans (FIN.out.2.2.mono HB1.out.1.size)) (Nat.le_succ _) _ _ _ _ _ _, va', vc', by rw [hl]; rfl, ?_⟩
    have hr := FIN.out.2.1
    have hz := HB1.out.2.1
    rw [← HM.out] at hr
    exact rowE_tell ((hr.keep (((((((Keep.refl (w.heap.size + 1) wf).setCell ⟨w.heap.size + 1, 0, none⟩ rfl _).setCell ⟨w.heap.size + 1, 1, none⟩ rfl _).setCell ⟨w.heap.size + 1, 2, none⟩ rfl _).setCell ⟨w.heap.size + 1, 3, none⟩ rfl _).setCell ⟨w.heap.size + 1, 4, none⟩ rfl _).setCell ⟨w.heap.size + 1, 5, none⟩ rfl _) (fun e => by have h3 := (hr.own.lt _ e).1; omega) (fun k hk => by omega)).low (B' := w.heap.size) (by omega)) HM.out RR.out.2.2.1 (Nat.le_refl _) (fun k hk => by omega) RR.out.2.2.2
  by_cases h3 : kn = 3
  ·have e2 : ((kn : Int) == 2) = false := by simp; omega
   have f2 : decide ((kn : Int) = 2) = false := by simp; omega
   have e3 : ((kn : Int) == 3) = true := by simp; omega
   have f3 : decide ((kn : Int) = 3) = true := by simp; omega
   have e4 : ((kn : Int) == 4) = false := by simp; omega
   have f4 : decide ((kn : Int) = 4) = false := by simp; omega
   have e5 : ((kn : Int) == 5) = false := by simp; omega
   have f5 : decide ((kn : Int) = 5) = false := by simp; omega
   obtain ⟨m, hm⟩ : ∃ m, m = es.length := ⟨_, rfl⟩
   have OX_0 : Hid (wc.drew.heap[O]? = some (.cells #[.int .i64 4, .int .i64 0, .string ⟨#[]⟩, .int .i64 0, .int .i64 0, .slice va m vc] 26 (0, 0)) ∧ O < wc.drew.heap.size) := ⟨by rw [hm]; exact HC0.out.1, (Array.getElem?_eq_some_iff.1 HC0.out.1).1⟩
   have RW_0 : Hid (RowE (fun b => w4.heap.size ≤ b ∧ b ≠ O) w4.heap.size (.slice va m vc) es wc.drew) := by
    rw [hm]
    exact HC0.out.2.1.below (Below.drew (Below.refl _ _))
   have OWW : Hid (True ∧ m = es.length) := ⟨trivial, hm⟩
   have HLL : Hid (rest = ns.map syD) := R23.out (by omega)
   have LEN2 : Hid (rest.length ≤ 100000) := by
    have h1 := LEN.out
    show rest.length ≤ 100000
    rw [HLL.out]
    exact h1.1
   clear hm
   rw [← HLL.out] at SNS
   go_upto_region 10 with fail
   clear r0
   refine wp_region_held_drew (S := fun u => Below w4.heap.size w4 u ∧ wc.heap.size ≤ u.heap.size) (by kernel_rfl) ⟨HC0.out.2.2.2.2.2.1.drew, Nat.le_refl _⟩ (fun hS => ?_)
   refine tk 0 (.pointer (some ⟨O, 5, none⟩)) rfl (Or.inl ⟨by rfl, fun u hu => by go_simp⟩) hS ?_
   simp only [Act.put, List.setIfInBounds_toArray, List.set_cons_zero, List.set_cons_succ]
   refine tk 2 (.pointer (some ⟨w.heap.size, 2, none⟩)) rfl (Or.inl ⟨by rfl, fun u hu => by go_simp⟩) hS ?_
   simp only [Act.put, List.setIfInBounds_toArray, List.set_cons_zero, List.set_cons_succ]
   refine tk 3 (.slice na n1 nc) rfl (Or.inl ⟨by rfl, fun u hu => by (have z0 := (show u.cell? ⟨w.heap.size, 2, none⟩ = some (.slice na n1 nc) from (cellO (PX.out u hu.1).2).trans rfl); go_simp)⟩) hS ?_
   simp only [Act.put, List.setIfInBounds_toArray, List.set_cons_zero, List.set_cons_succ]
   refine rdy [1, 4] (.cons rfl (fun K hK => ?_) (.cons rfl (fun K hK => ?_) .nil))
   ·have z0 : wc.drew.cell? ⟨O, 5, none⟩ = some (.slice va m vc) := (cellO OX_0.out.1).trans rfl
    go_simp
    refine hK.out _ _ hS (fun hS => ?_)
    clear hK K z0
    refine rdy [4] (.cons rfl (fun K hK => ?_) .nil)
    go_simp
    refine Calls.mono (SNS.out wc.drew (PX.out _ hS.1).1) ?_
    rintro e U1 ⟨hb1, ra, rc, er, rfl, her, hre⟩
    obtain ⟨ra2, rc2, rf, hrv, hrc, hrd⟩ := hre.lie (ok' := fun b => wc.heap.size ≤ b) (by have h1 := congrArg List.length her; rw [List.length_map] at h1; have h2 := LEN2.out; omega) (fun k hk => Nat.le_trans hS.2 hk) (fun k hk _ => Nat.le_trans hS.2 hk)
    rw [her] at hrv hrd
    simp only [Value.slice.injEq] at hrv
    obtain ⟨rfl, hrl, rfl⟩ := hrv
    have SR_1 : Hid (∃ f, Dc (fun b => wc.heap.size ≤ b ∧ b < U1.heap.size) U1 f ra rest) := ⟨rf, hrd⟩
    have OX_1 : Hid (U1.heap[O]? = some (.cells #[.int .i64 4, .int .i64 0, .string ⟨#[]⟩, .int .i64 0, .int .i64 0, .slice va m vc] 26 (0, 0)) ∧ O < U1.heap.size) := ⟨(hb1.block _ OX_0.out.2).trans OX_0.out.1, Nat.lt_of_lt_of_le OX_0.out.2 hb1.size⟩
    have RW_1 : Hid (RowE (fun b => w4.heap.size ≤ b ∧ b ≠ O) w4.heap.size (.slice va m vc) es U1) := RW_0.out.below hb1
    rw [hrl]
    have hS1 := And.intro (hS.1.trans (hb1.mono hS.1.size)) (Nat.le_trans hS.2 hb1.size)
    clear hb1 her hre hrc hrd hrl
    show K _ U1
    refine hK.out _ _ hS1 (fun hS => ?_)
    clear hK K
    refine rdy [5] (.cons rfl (fun K hK => ?_) .nil)
    obtain ⟨tf, htf⟩ := SR_1.out
    have hRW := RW_1.out
    rw [OWW.out.2] at hRW
    refine step_rowE rfl (.tmp 49) (.tmp 52) rfl (w := U1) (ok := fun b => w4.heap.size ≤ b ∧ b ≠ O) (B := w4.heap.size) (v := .slice va es.length vc) (es := es) hRW (F := tf) (a := ra) (l := rest) (cap := rc) (by rw [← OWW.out.2]; rfl) rfl (Dc.stay (fun _ _ => rfl) (fun k hk => ⟨⟨Nat.le_trans HC0.out.2.2.2.2.2.1.size hk.1, by have := (Array.getElem?_eq_some_iff.1 HC0.out.1).1; have := hk.1; omega⟩, hk.2, fun e => by have h1 := (HC0.out.2.1.own.lt k e.symm).2; have := hk.1; omega⟩) _ _ _ htf) hS.1.size (by have h1 := HC0.out.2.2.2.2.1; have h2 := LEN2.out; omega) ?_
    intro v' U2 fs hfs hr hb hwo hg
    have OX_2 : Hid (U2.heap[O]? = some (.cells #[.int .i64 4, .int .i64 0, .string ⟨#[]⟩, .int .i64 0, .int .i64 0, .slice va m vc] 26 (0, 0)) ∧ O < U2.heap.size) := ⟨(hg.block _ OX_1.out.2 (fun e => HC0.out.2.2.1 e.symm)).trans OX_1.out.1, Nat.lt_of_lt_of_le OX_1.out.2 hb.size⟩
    have hS2 : Below w4.heap.size w4 U2 ∧ wc.heap.size ≤ U2.heap.size := ⟨hS.1.trans hb, Nat.le_trans hS.2 hb.size⟩
    obtain ⟨es', hes'⟩ : ∃ es', es' = es ++ fs := ⟨_, rfl⟩
    rw [← hes'] at hr
    obtain ⟨va', vc', rfl, hvc'⟩ := own_sliceL hr.own
    have RR : Hid (RowE (fun b => w4.heap.size ≤ b ∧ b ≠ O) w4.heap.size (.slice va' es'.length vc') es' U2 ∧ (Value.slice va' es'.length vc').ownBlock ≠ some O ∧ es'.map (·.1) = dw :: dx :: rest ∧ es'.length ≤ 200000) := by
     have hem : es'.map (·.1) = dw :: dx :: rest := by rw [hes', List.map_append, HC0.out.2.2.2.1, hfs]; rfl
     refine ⟨hr, fun e => ?_, hem, ?_⟩
     ·rcases hwo with h | h
      ·exact HC0.out.2.2.1 (h.symm.trans e)
      ·have h2 := Option.some.inj (h.symm.trans e); have h3 := OX_1.out.2; omega
     ·have h1 := congrArg List.length hem; rw [List.length_map] at h1; have h2 := LEN2.out; simp only [List.length_cons] at h1; omega
    obtain ⟨m', hm'⟩ : ∃ m', m' = es'.length := ⟨_, rfl⟩
    rw [← hm']
    have HM := hidd hm'
    clear hfs hr hb hwo hg htf hRW hvc' hes' hm'
    show K _ U2
    refine hK.out _ _ hS2 (fun hS => ?_)
    clear hK K
    refine tk 6 (.pointer (some ⟨O, 5, none⟩)) rfl (Or.inl ⟨by rfl, fun u hu => by go_simp⟩) hS ?_
    simp only [Act.put, List.setIfInBounds_toArray, List.set_cons_zero, List.set_cons_succ]
    refine rdy [7] (.cons rfl (fun K hK => ?_) .nil)
    have q0 : U2.cell? ⟨O, 5, none⟩ = some _ := (cellO OX_2.out.1).trans rfl
    have z0 : U2.frozen? ⟨O, 5, none⟩ = false := by simp [World.frozen?, OX_2.out.1]
    go_simp
    refine hK.out _ _ ⟨hS.1.setCell (p := ⟨O, 5, none⟩) HC0.out.2.2.2.2.2.2 _, by simpa using hS.2⟩ (fun hS => ?_)
    clear hK K
    refine wpAnyH_done (by kernel_rfl) ?_ _
    clear q0 z0
    have hoy := (cell_setL OX_2.out.1 (.slice va' m' vc') : (U2.setCell ⟨O, 5, none⟩ (.slice va' m' vc')).heap[O]? = some (.cells #[.int .i64 4, .int .i64 0, .string ⟨#[]⟩, .int .i64 0, .int .i64 0, .slice va' m' vc'] 26 (0, 0)))
    have FIN : Hid ((U2.setCell ⟨O, 5, none⟩ (.slice va' m' vc')).heap[O]? = some (.cells #[.int .i64 4, .int .i64 0, .string ⟨#[]⟩, .int .i64 0, .int .i64 0, .slice va' m' vc'] 26 (0, 0)) ∧ RowE (fun b => w4.heap.size ≤ b ∧ b ≠ O) w4.heap.size (.slice va' es'.length vc') es' (U2.setCell ⟨O, 5, none⟩ (.slice va' m' vc')) ∧ Below w4.heap.size w4 (U2.setCell ⟨O, 5, none⟩ (.slice va' m' vc'))) := ⟨hoy, RR.out.1.keep ((Keep.refl O U2).setCell ⟨O, 5, none⟩ rfl _) RR.out.2.1 (fun k hk => hk.2), hS.1⟩
    clear hoy hS
    generalize (U2.setCell ⟨O, 5, none⟩ (.slice va' m' vc')) = wf at FIN ⊢
    have N3 := N1.out.after FIN.out.2.2
    have NH := hidd N3
    obtain ⟨q, q0, q1, q2, q3, q4, q5, qz⟩ := N3
    simp only at q0 q1 q2 q3 q4 q5
    have p0 : wf.cell? ⟨O, 0, none⟩ = some _ := (cellO FIN.out.1).trans rfl
    have p1 : wf.cell? ⟨O, 1, none⟩ = some _ := (cellO FIN.out.1).trans rfl
    have p2 : wf.cell? ⟨O, 2, none⟩ = some _ := (cellO FIN.out.1).trans rfl
    have p3 : wf.cell? ⟨O, 3, none⟩ = some _ := (cellO FIN.out.1).trans rfl
    have p4 : wf.cell? ⟨O, 4, none⟩ = some _ := (cellO FIN.out.1).trans rfl
    have p5 : wf.cell? ⟨O, 5, none⟩ = some _ := (cellO FIN.out.1).trans rfl
    go_wp2_with fail
    have hl : m' = (dw :: dx :: rest).length := by rw [HM.out, ← RR.out.2.2.1, List.length_map]
    refine bodyPost_ret (ret87 (NH.out.store (liD (dw :: dx :: rest)) (.slice va' m' vc')) rfl) rfl ?_
    refine ⟨below_sixN (HB1.out.1.trans (FIN.out.2.2.mono HB1.out.1.size)) (Nat.le_succ _) _ _ _ _ _ _, va', vc', by rw [hl]; rfl, ?_⟩
    have hr := FIN.out.2.1
    have hz := HB1.out.2.1
    rw [← HM.out] at hr
    exact rowE_tell ((hr.keep (((((((Keep.refl (w.heap.size + 1) wf).setCell ⟨w.heap.size + 1, 0, none⟩ rfl _).setCell ⟨w.heap.size + 1, 1, none⟩ rfl _).setCell ⟨w.heap.size + 1, 2, none⟩ rfl _).setCell ⟨w.heap.size + 1, 3, none⟩ rfl _).setCell ⟨w.heap.size + 1, 4, none⟩ rfl _).setCell ⟨w.heap.size + 1, 5, none⟩ rfl _) (fun e => by have h3 := (hr.own.lt _ e).1; omega) (fun k hk => by omega)).low (B' := w.heap.size) (by omega)) HM.out RR.out.2.2.1 (Nat.le_refl _) (fun k hk => by omega) RR.out.2.2.2
   ·go_simp
    refine Calls.mono (SNS.out wc.drew (PX.out _ hS.1).1) ?_
    rintro e U1 ⟨hb1, ra, rc, er, rfl, her, hre⟩
    obtain ⟨ra2, rc2, rf, hrv, hrc, hrd⟩ := hre.lie (ok' := fun b => wc.heap.size ≤ b) (by have h1 := congrArg List.length her; rw [List.length_map] at h1; have h2 := LEN2.out; omega) (fun k hk => Nat.le_trans hS.2 hk) (fun k hk _ => Nat.le_trans hS.2 hk)
    rw [her] at hrv hrd
    simp only [Value.slice.injEq] at hrv
    obtain ⟨rfl, hrl, rfl⟩ := hrv
    have SR_1 : Hid (∃ f, Dc (fun b => wc.heap.size ≤ b ∧ b < U1.heap.size) U1 f ra rest) := ⟨rf, hrd⟩
    have OX_1 : Hid (U1.heap[O]? = some (.cells #[.int .i64 4, .int .i64 0, .string ⟨#[]⟩, .int .i64 0, .int .i64 0, .slice va m vc] 26 (0, 0)) ∧ O < U1.heap.size) := ⟨(hb1.block _ OX_0.out.2).trans OX_0.out.1, Nat.lt_of_lt_of_le OX_0.out.2 hb1.size⟩
    have RW_1 : Hid (RowE (fun b => w4.heap.size ≤ b ∧ b ≠ O) w4.heap.size (.slice va m vc) es U1) := RW_0.out.below hb1
    rw [hrl]
    have hS1 := And.intro (hS.1.trans (hb1.mono hS.1.size)) (Nat.le_trans hS.2 hb1.size)
    clear hb1 her hre hrc hrd hrl
    show K _ U1
    refine hK.out _ _ hS1 (fun hS => ?_)
    clear hK K
    refine rdy [1] (.cons rfl (fun K hK => ?_) .nil)
    have z0 : U1.cell? ⟨O, 5, none⟩ = some (.slice va m vc) := (cellO OX_1.out.1).trans rfl
    go_simp
    refine hK.out _ _ hS (fun hS => ?_)
    clear hK K z0
    refine rdy [5] (.cons rfl (fun K hK => ?_) .nil)
    obtain ⟨tf, htf⟩ := SR_1.out
    have hRW := RW_1.out
    rw [OWW.out.2] at hRW
    refine step_rowE rfl (.tmp 49) (.tmp 52) rfl (w := U1) (ok := fun b => w4.heap.size ≤ b ∧ b ≠ O) (B := w4.heap.size) (v := .slice va es.length vc) (es := es) hRW (F := tf) (a := ra) (l := rest) (cap := rc) (by rw [← OWW.out.2]; rfl) rfl (Dc.stay (fun _ _ => rfl) (fun k hk => ⟨⟨Nat.le_trans HC0.out.2.2.2.2.2.1.size hk.1, by have := (Array.getElem?_eq_some_iff.1 HC0.out.1).1; have := hk.1; omega⟩, hk.2, fun e => by have h1 := (HC0.out.2.1.own.lt k e.symm).2; have := hk.1; omega⟩) _ _ _ htf) hS.1.size (by have h1 := HC0.out.2.2.2.2.1; have h2 := LEN2.out; omega) ?_
    intro v' U2 fs hfs hr hb hwo hg
    have OX_2 : Hid (U2.heap[O]? = some (.cells #[.int .i64 4, .int .i64 0, .string ⟨#[]⟩, .int .i64 0, .int .i64 0, .slice va m vc] 26 (0, 0)) ∧ O < U2.heap.size) := ⟨(hg.block _ OX_1.out.2 (fun e => HC0.out.2.2.1 e.symm)).trans OX_1.out.1, Nat.lt_of_lt_of_le OX_1.out.2 hb.size⟩
    have hS2 : Below w4.heap.size w4 U2 ∧ wc.heap.size ≤ U2.heap.size := ⟨hS.1.trans hb, Nat.le_trans hS.2 hb.size⟩
    obtain ⟨es', hes'⟩ : ∃ es', es' = es ++ fs := ⟨_, rfl⟩
    rw [← hes'] at hr
    obtain ⟨va', vc', rfl, hvc'⟩ := own_sliceL hr.own
    have RR : Hid (RowE (fun b => w4.heap.size ≤ b ∧ b ≠ O) w4.heap.size (.slice va' es'.length vc') es' U2 ∧ (Value.slice va' es'.length vc').ownBlock ≠ some O ∧ es'.map (·.1) = dw :: dx :: rest ∧ es'.length ≤ 200000) := by
     have hem : es'.map (·.1) = dw :: dx :: rest := by rw [hes', List.map_append, HC0.out.2.2.2.1, hfs]; rfl
     refine ⟨hr, fun e => ?_, hem, ?_⟩
     ·rcases hwo with h | h
      ·exact HC0.out.2.2.1 (h.symm.trans e)
      ·have h2 := Option.some.inj (h.symm.trans e); have h3 := OX_1.out.2; omega
     ·have h1 := congrArg List.length hem; rw [List.length_map] at h1; have h2 := LEN2.out; simp only [List.length_cons] at h1; omega
    obtain ⟨m', hm'⟩ : ∃ m', m' = es'.length := ⟨_, rfl⟩
    rw [← hm']
    have HM := hidd hm'
    clear hfs hr hb hwo hg htf hRW hvc' hes' hm'
    show K _ U2
    refine hK.out _ _ hS2 (fun hS => ?_)
    clear hK K
    refine tk 6 (.pointer (some ⟨O, 5, none⟩)) rfl (Or.inl ⟨by rfl, fun u hu => by go_simp⟩) hS ?_
    simp only [Act.put, List.setIfInBounds_toArray, List.set_cons_zero, List.set_cons_succ]
    refine rdy [7] (.cons rfl (fun K hK => ?_) .nil)
    have q0 : U2.cell? ⟨O, 5, none⟩ = some _ := (cellO OX_2.out.1).trans rfl
    have z0 : U2.frozen? ⟨O, 5, none⟩ = false := by simp [World.frozen?, OX_2.out.1]
    go_simp
    refine hK.out _ _ ⟨hS.1.setCell (p := ⟨O, 5, none⟩) HC0.out.2.2.2.2.2.2 _, by simpa using hS.2⟩ (fun hS => ?_)
    clear hK K
    refine wpAnyH_done (by kernel_rfl) ?_ _
    clear q0 z0
    have hoy := (cell_setL OX_2.out.1 (.slice va' m' vc') : (U2.setCell ⟨O, 5, none⟩ (.slice va' m' vc')).heap[O]? = some (.cells #[.int .i64 4, .int .i64 0, .string ⟨#[]⟩, .int .i64 0, .int .i64 0, .slice va' m' vc'] 26 (0, 0)))
    have FIN : Hid ((U2.setCell ⟨O, 5, none⟩ (.slice va' m' vc')).heap[O]? = some (.cells #[.int .i64 4, .int .i64 0, .string ⟨#[]⟩, .int .i64 0, .int .i64 0, .slice va' m' vc'] 26 (0, 0)) ∧ RowE (fun b => w4.heap.size ≤ b ∧ b ≠ O) w4.heap.size (.slice va' es'.length vc') es' (U2.setCell ⟨O, 5, none⟩ (.slice va' m' vc')) ∧ Below w4.heap.size w4 (U2.setCell ⟨O, 5, none⟩ (.slice va' m' vc'))) := ⟨hoy, RR.out.1.keep ((Keep.refl O U2).setCell ⟨O, 5, none⟩ rfl _) RR.out.2.1 (fun k hk => hk.2), hS.1⟩
    clear hoy hS
    generalize (U2.setCell ⟨O, 5, none⟩ (.slice va' m' vc')) = wf at FIN ⊢
    have N3 := N1.out.after FIN.out.2.2
    have NH := hidd N3
    obtain ⟨q, q0, q1, q2, q3, q4, q5, qz⟩ := N3
    simp only at q0 q1 q2 q3 q4 q5
    have p0 : wf.cell? ⟨O, 0, none⟩ = some _ := (cellO FIN.out.1).trans rfl
    have p1 : wf.cell? ⟨O, 1, none⟩ = some _ := (cellO FIN.out.1).trans rfl
    have p2 : wf.cell? ⟨O, 2, none⟩ = some _ := (cellO FIN.out.1).trans rfl
    have p3 : wf.cell? ⟨O, 3, none⟩ = some _ := (cellO FIN.out.1).trans rfl
    have p4 : wf.cell? ⟨O, 4, none⟩ = some _ := (cellO FIN.out.1).trans rfl
    have p5 : wf.cell? ⟨O, 5, none⟩ = some _ := (cellO FIN.out.1).trans rfl
    go_wp2_with fail
    have hl : m' = (dw :: dx :: rest).length := by rw [HM.out, ← RR.out.2.2.1, List.length_map]
    refine bodyPost_ret (ret87 (NH.out.store (liD (dw :: dx :: rest)) (.slice va' m' vc')) rfl) rfl ?_
    refine ⟨below_sixN (HB1.out.1.trans (FIN.out.2.2.mono HB1.out.1.size)) (Nat.le_succ _) _ _ _ _ _ _, va', vc', by rw [hl]; rfl, ?_⟩
    have hr := FIN.out.2.1
    have hz := HB1.out.2.1
    rw [← HM.out] at hr
    exact rowE_tell ((hr.keep (((((((Keep.refl (w.heap.size + 1) wf).setCell ⟨w.heap.size + 1, 0, none⟩ rfl _).setCell ⟨w.heap.size + 1, 1, none⟩ rfl _).setCell ⟨w.heap.size + 1, 2, none⟩ rfl _).setCell ⟨w.heap.size + 1, 3, none⟩ rfl _).setCell ⟨w.heap.size + 1, 4, none⟩ rfl _).setCell ⟨w.heap.size + 1, 5, none⟩ rfl _) (fun e => by have h3 := (hr.own.lt _ e).1; omega) (fun k hk => by omega)).low (B' := w.heap.size) (by omega)) HM.out RR.out.2.2.1 (Nat.le_refl _) (fun k hk => by omega) RR.out.2.2.2
  by_cases h4 : kn = 4
  ·have e2 : ((kn : Int) == 2) = false := by simp; omega
   have f2 : decide ((kn : Int) = 2) = false := by simp; omega
   have e3 : ((kn : Int) == 3) = false := by simp; omega
   have f3 : decide ((kn : Int) = 3) = false := by simp; omega
   have e4 : ((kn : Int) == 4) = true := by simp; omega
   have f4 : decide ((kn : Int) = 4) = true := by simp; omega
   have e5 : ((kn : Int) == 5) = false := by simp; omega
   have f5 : decide ((kn : Int) = 5) = false := by simp; omega
   obtain ⟨m, hm⟩ : ∃ m, m = es.length := ⟨_, rfl⟩
   have OX_0 : Hid (wc.drew.heap[O]? = some (.cells #[.int .i64 4, .int .i64 0, .string ⟨#[]⟩, .int .i64 0, .int .i64 0, .slice va m vc] 26 (0, 0)) ∧ O < wc.drew.heap.size) := ⟨by rw [hm]; exact HC0.out.1, (Array.getElem?_eq_some_iff.1 HC0.out.1).1⟩
   have RW_0 : Hid (RowE (fun b => w4.heap.size ≤ b ∧ b ≠ O) w4.heap.size (.slice va m vc) es wc.drew) := by
    rw [hm]
    exact HC0.out.2.1.below (Below.drew (Below.refl _ _))
   have OWW : Hid (True ∧ m = es.length) := ⟨trivial, hm⟩
   have HLL : Hid (rest = [dpp]) := R4.out (by omega)
   have LEN2 : Hid (rest.length ≤ 100000) := by
    have h1 := LEN.out
    show rest.length ≤ 100000
    rw [HLL.out]
    simp
   clear hm
   go_upto_region 12 with fail
   clear r0
   refine wp_region_held_drew (S := fun u => Below w4.heap.size w4 u ∧ wc.heap.size ≤ u.heap.size) (by kernel_rfl) ⟨HC0.out.2.2.2.2.2.1.drew, Nat.le_refl _⟩ (fun hS => ?_)
   refine tk 0 (.pointer (some ⟨O, 5, none⟩)) rfl (Or.inl ⟨by rfl, fun u hu => by go_simp⟩) hS ?_
   simp only [Act.put, List.setIfInBounds_toArray, List.set_cons_zero, List.set_cons_succ]
   refine tk 2 (.pointer (some ⟨w.heap.size, 4, none⟩)) rfl (Or.inl ⟨by rfl, fun u hu => by go_simp⟩) hS ?_
   simp only [Act.put, List.setIfInBounds_toArray, List.set_cons_zero, List.set_cons_succ]
   refine tk 3 (.string p) rfl (Or.inl ⟨by rfl, fun u hu => by (have z0 := (show u.cell? ⟨w.heap.size, 4, none⟩ = some (.string p) from (cellO (PX.out u hu.1).2).trans rfl); go_simp)⟩) hS ?_
   simp only [Act.put, List.setIfInBounds_toArray, List.set_cons_zero, List.set_cons_succ]
   refine rdy [1, 4] (.cons rfl (fun K hK => ?_) (.cons rfl (fun K hK => ?_) .nil))
   ·have z0 : wc.drew.cell? ⟨O, 5, none⟩ = some (.slice va m vc) := (cellO OX_0.out.1).trans rfl
    go_simp
    refine hK.out _ _ hS (fun hS => ?_)
    clear hK K z0
    refine rdy [4] (.cons rfl (fun K hK => ?_) .nil)
    go_simp
    refine Calls.mono (SPP.out wc.drew) ?_
    rintro e U1 ⟨rfl, hb1⟩
    have OX_1 : Hid (U1.heap[O]? = some (.cells #[.int .i64 4, .int .i64 0, .string ⟨#[]⟩, .int .i64 0, .int .i64 0, .slice va m vc] 26 (0, 0)) ∧ O < U1.heap.size) := ⟨(hb1.block _ OX_0.out.2).trans OX_0.out.1, Nat.lt_of_lt_of_le OX_0.out.2 hb1.size⟩
    have RW_1 : Hid (RowE (fun b => w4.heap.size ≤ b ∧ b ≠ O) w4.heap.size (.slice va m vc) es U1) := RW_0.out.below hb1
    have hS1 := And.intro (hS.1.trans (hb1.mono hS.1.size)) (Nat.le_trans hS.2 hb1.size)
    clear hb1
    try unfold dv
    show K _ U1
    refine hK.out _ _ hS1 (fun hS => ?_)
    clear hK K
    refine rdy [5] (.cons rfl (fun K hK => ?_) .nil)
    go_simp
    have hb2 : Below U1.heap.size U1 (U1.alloc (.cells #[.int .i64 dpp.kind, .int .i64 dpp.n, .string dpp.name, .int .i64 dpp.stamp, .int .i64 dpp.lib, .slice none dpp.kids.length 0] 26)) := (Below.refl _ _).alloc (Nat.le_refl _) _
    obtain ⟨sf2, hsf2⟩ := row_lie (fun b => wc.heap.size ≤ b) U1 [(dpp, none, 0)] (by simp) (by
     intro e he
     simp at he
     subst he
     exact DP.out _ _)
    have SR_2 : Hid (∃ f, Dc (fun b => wc.heap.size ≤ b ∧ b < (U1.alloc (.cells #[.int .i64 dpp.kind, .int .i64 dpp.n, .string dpp.name, .int .i64 dpp.stamp, .int .i64 dpp.lib, .slice none dpp.kids.length 0] 26)).heap.size) (U1.alloc (.cells #[.int .i64 dpp.kind, .int .i64 dpp.n, .string dpp.name, .int .i64 dpp.stamp, .int .i64 dpp.lib, .slice none dpp.kids.length 0] 26)) f (some ⟨U1.heap.size, 0, none⟩) rest) := ⟨sf2, by rw [HLL.out]; exact Dc.stay (fun _ _ => rfl) (fun k hk => ⟨hk.1.elim id (fun e => by rw [e]; exact hS.2), by have := hk.2; simpa using this⟩) _ _ _ hsf2⟩
    have hS2 := And.intro (hS.1.trans (hb2.mono hS.1.size)) (Nat.le_trans hS.2 hb2.size)
    clear hsf2
    change K _ (U1.alloc (.cells #[.int .i64 dpp.kind, .int .i64 dpp.n, .string dpp.name, .int .i64 dpp.stamp, .int .i64 dpp.lib, .slice none dpp.kids.length 0] 26))
    generalize U1.alloc (.cells #[.int .i64 dpp.kind, .int .i64 dpp.n, .string dpp.name, .int .i64 dpp.stamp, .int .i64 dpp.lib, .slice none dpp.kids.length 0] 26) = U2 at hb2 SR_2 hS2 ⊢
    have OX_2 : Hid (U2.heap[O]? = some (.cells #[.int .i64 4, .int .i64 0, .string ⟨#[]⟩, .int .i64 0, .int .i64 0, .slice va m vc] 26 (0, 0)) ∧ O < U2.heap.size) := ⟨(hb2.block _ OX_1.out.2).trans OX_1.out.1, Nat.lt_of_lt_of_le OX_1.out.2 hb2.size⟩
    have RW_2 : Hid (RowE (fun b => w4.heap.size ≤ b ∧ b ≠ O) w4.heap.size (.slice va m vc) es U2) := RW_1.out.below hb2
    clear hb2
    refine hK.out _ _ hS2 (fun hS => ?_)
    clear hK K
    refine rdy [6] (.cons rfl (fun K hK => ?_) .nil)
    obtain ⟨tf, htf⟩ := SR_2.out
    have hRW := RW_2.out
    rw [OWW.out.2] at hRW
    refine step_rowE rfl (.tmp 58) (.tmp 62) rfl (w := U2) (ok := fun b => w4.heap.size ≤ b ∧ b ≠ O) (B := w4.heap.size) (v := .slice va es.length vc) (es := es) hRW (F := tf) (a := (some ⟨U1.heap.size, 0, none⟩)) (l := rest) (cap := 1) (by rw [← OWW.out.2]; rfl) (by rw [HLL.out]; rfl) (Dc.stay (fun _ _ => rfl) (fun k hk => ⟨⟨Nat.le_trans HC0.out.2.2.2.2.2.1.size hk.1, by have := (Array.getElem?_eq_some_iff.1 HC0.out.1).1; have := hk.1; omega⟩, hk.2, fun e => by have h1 := (HC0.out.2.1.own.lt k e.symm).2; have := hk.1; omega⟩) _ _ _ htf) hS.1.size (by have h1 := HC0.out.2.2.2.2.1; have h2 := LEN2.out; omega) ?_
    intro v' U3 fs hfs hr hb hwo hg
    have OX_3 : Hid (U3.heap[O]? = some (.cells #[.int .i64 4, .int .i64 0, .string ⟨#[]⟩, .int .i64 0, .int .i64 0, .slice va m vc] 26 (0, 0)) ∧ O < U3.heap.size) := ⟨(hg.block _ OX_2.out.2 (fun e => HC0.out.2.2.1 e.symm)).trans OX_2.out.1, Nat.lt_of_lt_of_le OX_2.out.2 hb.size⟩
    have hS3 : Below w4.heap.size w4 U3 ∧ wc.heap.size ≤ U3.heap.size := ⟨hS.1.trans hb, Nat.le_trans hS.2 hb.size⟩
    obtain ⟨es', hes'⟩ : ∃ es', es' = es ++ fs := ⟨_, rfl⟩
    rw [← hes'] at hr
    obtain ⟨va', vc', rfl, hvc'⟩ := own_sliceL hr.own
    have RR : Hid (RowE (fun b => w4.heap.size ≤ b ∧ b ≠ O) w4.heap.size (.slice va' es'.length vc') es' U3 ∧ (Value.slice va' es'.length vc').ownBlock ≠ some O ∧ es'.map (·.1) = dw :: dx :: rest ∧ es'.length ≤ 200000) := by
     have hem : es'.map (·.1) = dw :: dx :: rest := by rw [hes', List.map_append, HC0.out.2.2.2.1, hfs]; rfl
     refine ⟨hr, fun e => ?_, hem, ?_⟩
     ·rcases hwo with h | h
      ·exact HC0.out.2.2.1 (h.symm.trans e)
      ·have h2 := Option.some.inj (h.symm.trans e); have h3 := OX_2.out.2; omega
     ·have h1 := congrArg List.length hem; rw [List.length_map] at h1; have h2 := LEN2.out; simp only [List.length_cons] at h1; omega
    obtain ⟨m', hm'⟩ : ∃ m', m' = es'.length := ⟨_, rfl⟩
    rw [← hm']
    have HM := hidd hm'
    clear hfs hr hb hwo hg htf hRW hvc' hes' hm'
    show K _ U3
    refine hK.out _ _ hS3 (fun hS => ?_)
    clear hK K
    refine tk 7 (.pointer (some ⟨O, 5, none⟩)) rfl (Or.inl ⟨by rfl, fun u hu => by go_simp⟩) hS ?_
    simp only [Act.put, List.setIfInBounds_toArray, List.set_cons_zero, List.set_cons_succ]
    refine rdy [8] (.cons rfl (fun K hK => ?_) .nil)
    have q0 : U3.cell? ⟨O, 5, none⟩ = some _ := (cellO OX_3.out.1).trans rfl
    have z0 : U3.frozen? ⟨O, 5, none⟩ = false := by simp [World.frozen?, OX_3.out.1]
    go_simp
    refine hK.out _ _ ⟨hS.1.setCell (p := ⟨O, 5, none⟩) HC0.out.2.2.2.2.2.2 _, by simpa using hS.2⟩ (fun hS => ?_)
    clear hK K
    refine wpAnyH_done (by kernel_rfl) ?_ _
    clear q0 z0
    have hoy := (cell_setL OX_3.out.1 (.slice va' m' vc') : (U3.setCell ⟨O, 5, none⟩ (.slice va' m' vc')).heap[O]? = some (.cells #[.int .i64 4, .int .i64 0, .string ⟨#[]⟩, .int .i64 0, .int .i64 0, .slice va' m' vc'] 26 (0, 0)))
    have FIN : Hid ((U3.setCell ⟨O, 5, none⟩ (.slice va' m' vc')).heap[O]? = some (.cells #[.int .i64 4, .int .i64 0, .string ⟨#[]⟩, .int .i64 0, .int .i64 0, .slice va' m' vc'] 26 (0, 0)) ∧ RowE (fun b => w4.heap.size ≤ b ∧ b ≠ O) w4.heap.size (.slice va' es'.length vc') es' (U3.setCell ⟨O, 5, none⟩ (.slice va' m' vc')) ∧ Below w4.heap.size w4 (U3.setCell ⟨O, 5, none⟩ (.slice va' m' vc'))) := ⟨hoy, RR.out.1.keep ((Keep.refl O U3).setCell ⟨O, 5, none⟩ rfl _) RR.out.2.1 (fun k hk => hk.2), hS.1⟩
    clear hoy hS
    generalize (U3.setCell ⟨O, 5, none⟩ (.slice va' m' vc')) = wf at FIN ⊢
    have N3 := N1.out.after FIN.out.2.2
    have NH := hidd N3
    obtain ⟨q, q0, q1, q2, q3, q4, q5, qz⟩ := N3
    simp only at q0 q1 q2 q3 q4 q5
    have p0 : wf.cell? ⟨O, 0, none⟩ = some _ := (cellO FIN.out.1).trans rfl
    have p1 : wf.cell? ⟨O, 1, none⟩ = some _ := (cellO FIN.out.1).trans rfl
    have p2 : wf.cell? ⟨O, 2, none⟩ = some _ := (cellO FIN.out.1).trans rfl
    have p3 : wf.cell? ⟨O, 3, none⟩ = some _ := (cellO FIN.out.1).trans rfl
    have p4 : wf.cell? ⟨O, 4, none⟩ = some _ := (cellO FIN.out.1).trans rfl
    have p5 : wf.cell? ⟨O, 5, none⟩ = some _ := (cellO FIN.out.1).trans rfl
    go_wp2_with fail
    have hl : m' = (dw :: dx :: rest).length := by rw [HM.out, ← RR.out.2.2.1, List.length_map]
    refine bodyPost_ret (ret87 (NH.out.store (liD (dw :: dx :: rest)) (.slice va' m' vc')) rfl) rfl ?_
    refine ⟨below_sixN (HB1.out.1.trans (FIN.out.2.2.mono HB1.out.1.size)) (Nat.le_succ _) _ _ _ _ _ _, va', vc', by rw [hl]; rfl, ?_⟩
    have hr := FIN.out.2.1
    have hz := HB1.out.2.1
    rw [← HM.out] at hr
    exact rowE_tell ((hr.keep (((((((Keep.refl (w.heap.size + 1) wf).setCell ⟨w.heap.size + 1, 0, none⟩ rfl _).setCell ⟨w.heap.size + 1, 1, none⟩ rfl _).setCell ⟨w.heap.size + 1, 2, none⟩ rfl _).setCell ⟨w.heap.size + 1, 3, none⟩ rfl _).setCell ⟨w.heap.size + 1, 4, none⟩ rfl _).setCell ⟨w.heap.size + 1, 5, none⟩ rfl _) (fun e => by have h3 := (hr.own.lt _ e).1; omega) (fun k hk => by omega)).low (B' := w.heap.size) (by omega)) HM.out RR.out.2.2.1 (Nat.le_refl _) (fun k hk => by omega) RR.out.2.2.2
   ·go_simp
    refine Calls.mono (SPP.out wc.drew) ?_
    rintro e U1 ⟨rfl, hb1⟩
    have OX_1 : Hid (U1.heap[O]? = some (.cells #[.int .i64 4, .int .i64 0, .string ⟨#[]⟩, .int .i64 0, .int .i64 0, .slice va m vc] 26 (0, 0)) ∧ O < U1.heap.size) := ⟨(hb1.block _ OX_0.out.2).trans OX_0.out.1, Nat.lt_of_lt_of_le OX_0.out.2 hb1.size⟩
    have RW_1 : Hid (RowE (fun b => w4.heap.size ≤ b ∧ b ≠ O) w4.heap.size (.slice va m vc) es U1) := RW_0.out.below hb1
    have hS1 := And.intro (hS.1.trans (hb1.mono hS.1.size)) (Nat.le_trans hS.2 hb1.size)
    clear hb1
    try unfold dv
    show K _ U1
    refine hK.out _ _ hS1 (fun hS => ?_)
    clear hK K
    refine rdy [1, 5] (.cons rfl (fun K hK => ?_) (.cons rfl (fun K hK => ?_) .nil))
    ·have z0 : U1.cell? ⟨O, 5, none⟩ = some (.slice va m vc) := (cellO OX_1.out.1).trans rfl
     go_simp
     refine hK.out _ _ hS (fun hS => ?_)
     clear hK K z0
     refine rdy [5] (.cons rfl (fun K hK => ?_) .nil)
     go_simp
     have hb2 : Below U1.heap.size U1 (U1.alloc (.cells #[.int .i64 dpp.kind, .int .i64 dpp.n, .string dpp.name, .int .i64 dpp.stamp, .int .i64 dpp.lib, .slice none dpp.kids.length 0] 26)) := (Below.refl _ _).alloc (Nat.le_refl _) _
     obtain ⟨sf2, hsf2⟩ := row_lie (fun b => wc.heap.size ≤ b) U1 [(dpp, none, 0)] (by simp) (by
      intro e he
      simp at he
      subst he
      exact DP.out _ _)
     have SR_2 : Hid (∃ f, Dc (fun b => wc.heap.size ≤ b ∧ b < (U1.alloc (.cells #[.int .i64 dpp.kind, .int .i64 dpp.n, .string dpp.name, .int .i64 dpp.stamp, .int .i64 dpp.lib, .slice none dpp.kids.length 0] 26)).heap.size) (U1.alloc (.cells #[.int .i64 dpp.kind, .int .i64 dpp.n, .string dpp.name, .int .i64 dpp.stamp, .int .i64 dpp.lib, .slice none dpp.kids.length 0] 26)) f (some ⟨U1.heap.size, 0, none⟩) rest) := ⟨sf2, by rw [HLL.out]; exact Dc.stay (fun _ _ => rfl) (fun k hk => ⟨hk.1.elim id (fun e => by rw [e]; exact hS.2), by have := hk.2; simpa using this⟩) _ _ _ hsf2⟩
     have hS2 := And.intro (hS.1.trans (hb2.mono hS.1.size)) (Nat.le_trans hS.2 hb2.size)
     clear hsf2
     change K _ (U1.alloc (.cells #[.int .i64 dpp.kind, .int .i64 dpp.n, .string dpp.name, .int .i64 dpp.stamp, .int .i64 dpp.lib, .slice none dpp.kids.length 0] 26))
     generalize U1.alloc (.cells #[.int .i64 dpp.kind, .int .i64 dpp.n, .string dpp.name, .int .i64 dpp.stamp, .int .i64 dpp.lib, .slice none dpp.kids.length 0] 26) = U2 at hb2 SR_2 hS2 ⊢
     have OX_2 : Hid (U2.heap[O]? = some (.cells #[.int .i64 4, .int .i64 0, .string ⟨#[]⟩, .int .i64 0, .int .i64 0, .slice va m vc] 26 (0, 0)) ∧ O < U2.heap.size) := ⟨(hb2.block _ OX_1.out.2).trans OX_1.out.1, Nat.lt_of_lt_of_le OX_1.out.2 hb2.size⟩
     have RW_2 : Hid (RowE (fun b => w4.heap.size ≤ b ∧ b ≠ O) w4.heap.size (.slice va m vc) es U2) := RW_1.out.below hb2
     clear hb2
     refine hK.out _ _ hS2 (fun hS => ?_)
     clear hK K
     refine rdy [6] (.cons rfl (fun K hK => ?_) .nil)
     obtain ⟨tf, htf⟩ := SR_2.out
     have hRW := RW_2.out
     rw [OWW.out.2] at hRW
     refine step_rowE rfl (.tmp 58) (.tmp 62) rfl (w := U2) (ok := fun b => w4.heap.size ≤ b ∧ b ≠ O) (B := w4.heap.size) (v := .slice va es.length vc) (es := es) hRW (F := tf) (a := (some ⟨U1.heap.size, 0, none⟩)) (l := rest) (cap := 1) (by rw [← OWW.out.2]; rfl) (by rw [HLL.out]; rfl) (Dc.stay (fun _ _ => rfl) (fun k hk => ⟨⟨Nat.le_trans HC0.out.2.2.2.2.2.1.size hk.1, by have := (Array.getElem?_eq_some_iff.1 HC0.out.1).1; have := hk.1; omega⟩, hk.2, fun e => by have h1 := (HC0.out.2.1.own.lt k e.symm).2; have := hk.1; omega⟩) _ _ _ htf) hS.1.size (by have h1 := HC0.out.2.2.2.2.1; have h2 := LEN2.out; omega) ?_
     intro v' U3 fs hfs hr hb hwo hg
     have OX_3 : Hid (U3.heap[O]? = some (.cells #[.int .i64 4, .int .i64 0, .string ⟨#[]⟩, .int .i64 0, .int .i64 0, .slice va m vc] 26 (0, 0)) ∧ O < U3.heap.size) := ⟨(hg.block _ OX_2.out.2 (fun e => HC0.out.2.2.1 e.symm)).trans OX_2.out.1, Nat.lt_of_lt_of_le OX_2.out.2 hb.size⟩
     have hS3 : Below w4.heap.size w4 U3 ∧ wc.heap.size ≤ U3.heap.size := ⟨hS.1.trans hb, Nat.le_trans hS.2 hb.size⟩
     obtain ⟨es', hes'⟩ : ∃ es', es' = es ++ fs := ⟨_, rfl⟩
     rw [← hes'] at hr
     obtain ⟨va', vc', rfl, hvc'⟩ := own_sliceL hr.own
     have RR : Hid (RowE (fun b => w4.heap.size ≤ b ∧ b ≠ O) w4.heap.size (.slice va' es'.length vc') es' U3 ∧ (Value.slice va' es'.length vc').ownBlock ≠ some O ∧ es'.map (·.1) = dw :: dx :: rest ∧ es'.length ≤ 200000) := by
      have hem : es'.map (·.1) = dw :: dx :: rest := by rw [hes', List.map_append, HC0.out.2.2.2.1, hfs]; rfl
      refine ⟨hr, fun e => ?_, hem, ?_⟩
      ·rcases hwo with h | h
       ·exact HC0.out.2.2.1 (h.symm.trans e)
       ·have h2 := Option.some.inj (h.symm.trans e); have h3 := OX_2.out.2; omega
      ·have h1 := congrArg List.length hem; rw [List.length_map] at h1; have h2 := LEN2.out; simp only [List.length_cons] at h1; omega
     obtain ⟨m', hm'⟩ : ∃ m', m' = es'.length := ⟨_, rfl⟩
     rw [← hm']
     have HM := hidd hm'
     clear hfs hr hb hwo hg htf hRW hvc' hes' hm'
     show K _ U3
     refine hK.out _ _ hS3 (fun hS => ?_)
     clear hK K
     refine tk 7 (.pointer (some ⟨O, 5, none⟩)) rfl (Or.inl ⟨by rfl, fun u hu => by go_simp⟩) hS ?_
     simp only [Act.put, List.setIfInBounds_toArray, List.set_cons_zero, List.set_cons_succ]
     refine rdy [8] (.cons rfl (fun K hK => ?_) .nil)
     have q0 : U3.cell? ⟨O, 5, none⟩ = some _ := (cellO OX_3.out.1).trans rfl
     have z0 : U3.frozen? ⟨O, 5, none⟩ = false := by simp [World.frozen?, OX_3.out.1]
     go_simp
     refine hK.out _ _ ⟨hS.1.setCell (p := ⟨O, 5, none⟩) HC0.out.2.2.2.2.2.2 _, by simpa using hS.2⟩ (fun hS => ?_)
     clear hK K
     refine wpAnyH_done (by kernel_rfl) ?_ _
     clear q0 z0
     have hoy := (cell_setL OX_3.out.1 (.slice va' m' vc') : (U3.setCell ⟨O, 5, none⟩ (.slice va' m' vc')).heap[O]? = some (.cells #[.int .i64 4, .int .i64 0, .string ⟨#[]⟩, .int .i64 0, .int .i64 0, .slice va' m' vc'] 26 (0, 0)))
     have FIN : Hid ((U3.setCell ⟨O, 5, none⟩ (.slice va' m' vc')).heap[O]? = some (.cells #[.int .i64 4, .int .i64 0, .string ⟨#[]⟩, .int .i64 0, .int .i64 0, .slice va' m' vc'] 26 (0, 0)) ∧ RowE (fun b => w4.heap.size ≤ b ∧ b ≠ O) w4.heap.size (.slice va' es'.length vc') es' (U3.setCell ⟨O, 5, none⟩ (.slice va' m' vc')) ∧ Below w4.heap.size w4 (U3.setCell ⟨O, 5, none⟩ (.slice va' m' vc'))) := ⟨hoy, RR.out.1.keep ((Keep.refl O U3).setCell ⟨O, 5, none⟩ rfl _) RR.out.2.1 (fun k hk => hk.2), hS.1⟩
     clear hoy hS
     generalize (U3.setCell ⟨O, 5, none⟩ (.slice va' m' vc')) = wf at FIN ⊢
     have N3 := N1.out.after FIN.out.2.2
     have NH := hidd N3
     obtain ⟨q, q0, q1, q2, q3, q4, q5, qz⟩ := N3
     simp only at q0 q1 q2 q3 q4 q5
     have p0 : wf.cell? ⟨O, 0, none⟩ = some _ := (cellO FIN.out.1).trans rfl
     have p1 : wf.cell? ⟨O, 1, none⟩ = some _ := (cellO FIN.out.1).trans rfl
     have p2 : wf.cell? ⟨O, 2, none⟩ = some _ := (cellO FIN.out.1).trans rfl
     have p3 : wf.cell? ⟨O, 3, none⟩ = some _ := (cellO FIN.out.1).trans rfl
     have p4 : wf.cell? ⟨O, 4, none⟩ = some _ := (cellO FIN.out.1).trans rfl
     have p5 : wf.cell? ⟨O, 5, none⟩ = some _ := (cellO FIN.out.1).trans rfl
     go_wp2_with fail
     have hl : m' = (dw :: dx :: rest).length := by rw [HM.out, ← RR.out.2.2.1, List.length_map]
     refine bodyPost_ret (ret87 (NH.out.store (liD (dw :: dx :: rest)) (.slice va' m' vc')) rfl) rfl ?_
     refine ⟨below_sixN (HB1.out.1.trans (FIN.out.2.2.mono HB1.out.1.size)) (Nat.le_succ _) _ _ _ _ _ _, va', vc', by rw [hl]; rfl, ?_⟩
     have hr := FIN.out.2.1
     have hz := HB1.out.2.1
     rw [← HM.out] at hr
     exact rowE_tell ((hr.keep (((((((Keep.refl (w.heap.size + 1) wf).setCell ⟨w.heap.size + 1, 0, none⟩ rfl _).setCell ⟨w.heap.size + 1, 1, none⟩ rfl _).setCell ⟨w.heap.size + 1, 2, none⟩ rfl _).setCell ⟨w.heap.size + 1, 3, none⟩ rfl _).setCell ⟨w.heap.size + 1, 4, none⟩ rfl _).setCell ⟨w.heap.size + 1, 5, none⟩ rfl _) (fun e => by have h3 := (hr.own.lt _ e).1; omega) (fun k hk => by omega)).low (B' := w.heap.size) (by omega)) HM.out RR.out.2.2.1 (Nat.le_refl _) (fun k hk => by omega) RR.out.2.2.2
    ·go_simp
     have hb2 : Below U1.heap.size U1 (U1.alloc (.cells #[.int .i64 dpp.kind, .int .i64 dpp.n, .string dpp.name, .int .i64 dpp.stamp, .int .i64 dpp.lib, .slice none dpp.kids.length 0] 26)) := (Below.refl _ _).alloc (Nat.le_refl _) _
     obtain ⟨sf2, hsf2⟩ := row_lie (fun b => wc.heap.size ≤ b) U1 [(dpp, none, 0)] (by simp) (by
      intro e he
      simp at he
      subst he
      exact DP.out _ _)
     have SR_2 : Hid (∃ f, Dc (fun b => wc.heap.size ≤ b ∧ b < (U1.alloc (.cells #[.int .i64 dpp.kind, .int .i64 dpp.n, .string dpp.name, .int .i64 dpp.stamp, .int .i64 dpp.lib, .slice none dpp.kids.length 0] 26)).heap.size) (U1.alloc (.cells #[.int .i64 dpp.kind, .int .i64 dpp.n, .string dpp.name, .int .i64 dpp.stamp, .int .i64 dpp.lib, .slice none dpp.kids.length 0] 26)) f (some ⟨U1.heap.size, 0, none⟩) rest) := ⟨sf2, by rw [HLL.out]; exact Dc.stay (fun _ _ => rfl) (fun k hk => ⟨hk.1.elim id (fun e => by rw [e]; exact hS.2), by have := hk.2; simpa using this⟩) _ _ _ hsf2⟩
     have hS2 := And.intro (hS.1.trans (hb2.mono hS.1.size)) (Nat.le_trans hS.2 hb2.size)
     clear hsf2
     change K _ (U1.alloc (.cells #[.int .i64 dpp.kind, .int .i64 dpp.n, .string dpp.name, .int .i64 dpp.stamp, .int .i64 dpp.lib, .slice none dpp.kids.length 0] 26))
     generalize U1.alloc (.cells #[.int .i64 dpp.kind, .int .i64 dpp.n, .string dpp.name, .int .i64 dpp.stamp, .int .i64 dpp.lib, .slice none dpp.kids.length 0] 26) = U2 at hb2 SR_2 hS2 ⊢
     have OX_2 : Hid (U2.heap[O]? = some (.cells #[.int .i64 4, .int .i64 0, .string ⟨#[]⟩, .int .i64 0, .int .i64 0, .slice va m vc] 26 (0, 0)) ∧ O < U2.heap.size) := ⟨(hb2.block _ OX_1.out.2).trans OX_1.out.1, Nat.lt_of_lt_of_le OX_1.out.2 hb2.size⟩
     have RW_2 : Hid (RowE (fun b => w4.heap.size ≤ b ∧ b ≠ O) w4.heap.size (.slice va m vc) es U2) := RW_1.out.below hb2
     clear hb2
     refine hK.out _ _ hS2 (fun hS => ?_)
     clear hK K
     refine rdy [1] (.cons rfl (fun K hK => ?_) .nil)
     have z0 : U2.cell? ⟨O, 5, none⟩ = some (.slice va m vc) := (cellO OX_2.out.1).trans rfl
     go_simp
     refine hK.out _ _ hS (fun hS => ?_)
     clear hK K z0
     refine rdy [6] (.cons rfl (fun K hK => ?_) .nil)
     obtain ⟨tf, htf⟩ := SR_2.out
     have hRW := RW_2.out
     rw [OWW.out.2] at hRW
     refine step_rowE rfl (.tmp 58) (.tmp 62) rfl (w := U2) (ok := fun b => w4.heap.size ≤ b ∧ b ≠ O) (B := w4.heap.size) (v := .slice va es.length vc) (es := es) hRW (F := tf) (a := (some ⟨U1.heap.size, 0, none⟩)) (l := rest) (cap := 1) (by rw [← OWW.out.2]; rfl) (by rw [HLL.out]; rfl) (Dc.stay (fun _ _ => rfl) (fun k hk => ⟨⟨Nat.le_trans HC0.out.2.2.2.2.2.1.size hk.1, by have := (Array.getElem?_eq_some_iff.1 HC0.out.1).1; have := hk.1; omega⟩, hk.2, fun e => by have h1 := (HC0.out.2.1.own.lt k e.symm).2; have := hk.1; omega⟩) _ _ _ htf) hS.1.size (by have h1 := HC0.out.2.2.2.2.1; have h2 := LEN2.out; omega) ?_
     intro v' U3 fs hfs hr hb hwo hg
     have OX_3 : Hid (U3.heap[O]? = some (.cells #[.int .i64 4, .int .i64 0, .string ⟨#[]⟩, .int .i64 0, .int .i64 0, .slice va m vc] 26 (0, 0)) ∧ O < U3.heap.size) := ⟨(hg.block _ OX_2.out.2 (fun e => HC0.out.2.2.1 e.symm)).trans OX_2.out.1, Nat.lt_of_lt_of_le OX_2.out.2 hb.size⟩
     have hS3 : Below w4.heap.size w4 U3 ∧ wc.heap.size ≤ U3.heap.size := ⟨hS.1.trans hb, Nat.le_trans hS.2 hb.size⟩
     obtain ⟨es', hes'⟩ : ∃ es', es' = es ++ fs := ⟨_, rfl⟩
     rw [← hes'] at hr
     obtain ⟨va', vc', rfl, hvc'⟩ := own_sliceL hr.own
     have RR : Hid (RowE (fun b => w4.heap.size ≤ b ∧ b ≠ O) w4.heap.size (.slice va' es'.length vc') es' U3 ∧ (Value.slice va' es'.length vc').ownBlock ≠ some O ∧ es'.map (·.1) = dw :: dx :: rest ∧ es'.length ≤ 200000) := by
      have hem : es'.map (·.1) = dw :: dx :: rest := by rw [hes', List.map_append, HC0.out.2.2.2.1, hfs]; rfl
      refine ⟨hr, fun e => ?_, hem, ?_⟩
      ·rcases hwo with h | h
       ·exact HC0.out.2.2.1 (h.symm.trans e)
       ·have h2 := Option.some.inj (h.symm.trans e); have h3 := OX_2.out.2; omega
      ·have h1 := congrArg List.length hem; rw [List.length_map] at h1; have h2 := LEN2.out; simp only [List.length_cons] at h1; omega
     obtain ⟨m', hm'⟩ : ∃ m', m' = es'.length := ⟨_, rfl⟩
     rw [← hm']
     have HM := hidd hm'
     clear hfs hr hb hwo hg htf hRW hvc' hes' hm'
     show K _ U3
     refine hK.out _ _ hS3 (fun hS => ?_)
     clear hK K
     refine tk 7 (.pointer (some ⟨O, 5, none⟩)) rfl (Or.inl ⟨by rfl, fun u hu => by go_simp⟩) hS ?_
     simp only [Act.put, List.setIfInBounds_toArray, List.set_cons_zero, List.set_cons_succ]
     refine rdy [8] (.cons rfl (fun K hK => ?_) .nil)
     have q0 : U3.cell? ⟨O, 5, none⟩ = some _ := (cellO OX_3.out.1).trans rfl
     have z0 : U3.frozen? ⟨O, 5, none⟩ = false := by simp [World.frozen?, OX_3.out.1]
     go_simp
     refine hK.out _ _ ⟨hS.1.setCell (p := ⟨O, 5, none⟩) HC0.out.2.2.2.2.2.2 _, by simpa using hS.2⟩ (fun hS => ?_)
     clear hK K
     refine wpAnyH_done (by kernel_rfl) ?_ _
     clear q0 z0
     have hoy := (cell_setL OX_3.out.1 (.slice va' m' vc') : (U3.setCell ⟨O, 5, none⟩ (.slice va' m' vc')).heap[O]? = some (.cells #[.int .i64 4, .int .i64 0, .string ⟨#[]⟩, .int .i64 0, .int .i64 0, .slice va' m' vc'] 26 (0, 0)))
     have FIN : Hid ((U3.setCell ⟨O, 5, none⟩ (.slice va' m' vc')).heap[O]? = some (.cells #[.int .i64 4, .int .i64 0, .string ⟨#[]⟩, .int .i64 0, .int .i64 0, .slice va' m' vc'] 26 (0, 0)) ∧ RowE (fun b => w4.heap.size ≤ b ∧ b ≠ O) w4.heap.size (.slice va' es'.length vc') es' (U3.setCell ⟨O, 5, none⟩ (.slice va' m' vc')) ∧ Below w4.heap.size w4 (U3.setCell ⟨O, 5, none⟩ (.slice va' m' vc'))) := ⟨hoy, RR.out.1.keep ((Keep.refl O U3).setCell ⟨O, 5, none⟩ rfl _) RR.out.2.1 (fun k hk => hk.2), hS.1⟩
     clear hoy hS
     generalize (U3.setCell ⟨O, 5, none⟩ (.slice va' m' vc')) = wf at FIN ⊢
     have N3 := N1.out.after FIN.out.2.2
     have NH := hidd N3
     obtain ⟨q, q0, q1, q2, q3, q4, q5, qz⟩ := N3
     simp only at q0 q1 q2 q3 q4 q5
     have p0 : wf.cell? ⟨O, 0, none⟩ = some _ := (cellO FIN.out.1).trans rfl
     have p1 : wf.cell? ⟨O, 1, none⟩ = some _ := (cellO FIN.out.1).trans rfl
     have p2 : wf.cell? ⟨O, 2, none⟩ = some _ := (cellO FIN.out.1).trans rfl
     have p3 : wf.cell? ⟨O, 3, none⟩ = some _ := (cellO FIN.out.1).trans rfl
     have p4 : wf.cell? ⟨O, 4, none⟩ = some _ := (cellO FIN.out.1).trans rfl
     have p5 : wf.cell? ⟨O, 5, none⟩ = some _ := (cellO FIN.out.1).trans rfl
     go_wp2_with fail
     have hl : m' = (dw :: dx :: rest).length := by rw [HM.out, ← RR.out.2.2.1, List.length_map]
     refine bodyPost_ret (ret87 (NH.out.store (liD (dw :: dx :: rest)) (.slice va' m' vc')) rfl) rfl ?_
     refine ⟨below_sixN (HB1.out.1.trans (FIN.out.2.2.mono HB1.out.1.size)) (Nat.le_succ _) _ _ _ _ _ _, va', vc', by rw [hl]; rfl, ?_⟩
     have hr := FIN.out.2.1
     have hz := HB1.out.2.1
     rw [← HM.out] at hr
     exact rowE_tell ((hr.keep (((((((Keep.refl (w.heap.size + 1) wf).setCell ⟨w.heap.size + 1, 0, none⟩ rfl _).setCell ⟨w.heap.size + 1, 1, none⟩ rfl _).setCell ⟨w.heap.size + 1, 2, none⟩ rfl _).setCell ⟨w.heap.size + 1, 3, none⟩ rfl _).setCell ⟨w.heap.size + 1, 4, none⟩ rfl _).setCell ⟨w.heap.size + 1, 5, none⟩ rfl _) (fun e => by have h3 := (hr.own.lt _ e).1; omega) (fun k hk => by omega)).low (B' := w.heap.size) (by omega)) HM.out RR.out.2.2.1 (Nat.le_refl _) (fun k hk => by omega) RR.out.2.2.2
  by_cases h5 : kn = 5
  ·have e2 : ((kn : Int) == 2) = false := by simp; omega
   have f2 : decide ((kn : Int) = 2) = false := by simp; omega
   have e3 : ((kn : Int) == 3) = false := by simp; omega
   have f3 : decide ((kn : Int) = 3) = false := by simp; omega
   have e4 : ((kn : Int) == 4) = false := by simp; omega
   have f4 : decide ((kn : Int) = 4) = false := by simp; omega
   have e5 : ((kn : Int) == 5) = true := by simp; omega
   have f5 : decide ((kn : Int) = 5) = true := by simp; omega
   obtain ⟨m, hm⟩ : ∃ m, m = es.length := ⟨_, rfl⟩
   have OX_0 : Hid (wc.drew.heap[O]? = some (.cells #[.int .i64 4, .int .i64 0, .string ⟨#[]⟩, .int .i64 0, .int .i64 0, .slice va m vc] 26 (0, 0)) ∧ O < wc.drew.heap.size) := ⟨by rw [hm]; exact HC0.out.1, (Array.getElem?_eq_some_iff.1 HC0.out.1).1⟩
   have RW_0 : Hid (RowE (fun b => w4.heap.size ≤ b ∧ b ≠ O) w4.heap.size (.slice va m vc) es wc.drew) := by
    rw [hm]
    exact HC0.out.2.1.below (Below.drew (Below.refl _ _))
   have OWW : Hid (True ∧ m = es.length) := ⟨trivial, hm⟩
   have HLL : Hid (rest = renD ns as_) := R5.out (by omega)
   have LEN2 : Hid (rest.length ≤ 100000) := by
    have h1 := LEN.out
    show rest.length ≤ 100000
    rw [HLL.out]
    exact h1.2
   clear hm
   rw [← HLL.out] at SRN
   go_upto_region 14 with fail
   clear r0
   refine wp_region_held_drew (S := fun u => Below w4.heap.size w4 u ∧ wc.heap.size ≤ u.heap.size) (by kernel_rfl) ⟨HC0.out.2.2.2.2.2.1.drew, Nat.le_refl _⟩ (fun hS => ?_)
   refine tk 0 (.pointer (some ⟨O, 5, none⟩)) rfl (Or.inl ⟨by rfl, fun u hu => by go_simp⟩) hS ?_
   simp only [Act.put, List.setIfInBounds_toArray, List.set_cons_zero, List.set_cons_succ]
   refine tk 2 (.pointer (some ⟨w.heap.size, 2, none⟩)) rfl (Or.inl ⟨by rfl, fun u hu => by go_simp⟩) hS ?_
   simp only [Act.put, List.setIfInBounds_toArray, List.set_cons_zero, List.set_cons_succ]
   refine tk 3 (.slice na n1 nc) rfl (Or.inl ⟨by rfl, fun u hu => by (have z0 := (show u.cell? ⟨w.heap.size, 2, none⟩ = some (.slice na n1 nc) from (cellO (PX.out u hu.1).2).trans rfl); go_simp)⟩) hS ?_
   simp only [Act.put, List.setIfInBounds_toArray, List.set_cons_zero, List.set_cons_succ]
   refine tk 4 (.pointer (some ⟨w.heap.size, 3, none⟩)) rfl (Or.inl ⟨by rfl, fun u hu => by go_simp⟩) hS ?_
   simp only [Act.put, List.setIfInBounds_toArray, List.set_cons_zero, List.set_cons_succ]
   refine tk 5 (.slice aa n2 ac) rfl (Or.inl ⟨by rfl, fun u hu => by (have z0 := (show u.cell? ⟨w.heap.size, 3, none⟩ = some (.slice aa n2 ac) from (cellO (PX.out u hu.1).2).trans rfl); go_simp)⟩) hS ?_
   simp only [Act.put, List.setIfInBounds_toArray, List.set_cons_zero, List.set_cons_succ]
   refine rdy [1, 6] (.cons rfl (fun K hK => ?_) (.cons rfl (fun K hK => ?_) .nil))
   ·have z0 : wc.drew.cell? ⟨O, 5, none⟩ = some (.slice va m vc) := (cellO OX_0.out.1).trans rfl
    go_simp
    refine hK.out _ _ hS (fun hS => ?_)
    clear hK K z0
    refine rdy [6] (.cons rfl (fun K hK => ?_) .nil)
    go_simp
    refine Calls.mono (SRN.out (by omega) wc.drew (PX.out _ hS.1).1) ?_
    rintro e U1 ⟨hb1, ra, rc, er, rfl, her, hre⟩
    obtain ⟨ra2, rc2, rf, hrv, hrc, hrd⟩ := hre.lie (ok' := fun b => wc.heap.size ≤ b) (by have h1 := congrArg List.length her; rw [List.length_map] at h1; have h2 := LEN2.out; omega) (fun k hk => Nat.le_trans hS.2 hk) (fun k hk _ => Nat.le_trans hS.2 hk)
    rw [her] at hrv hrd
    simp only [Value.slice.injEq] at hrv
    obtain ⟨rfl, hrl, rfl⟩ := hrv
    have SR_1 : Hid (∃ f, Dc (fun b => wc.heap.size ≤ b ∧ b < U1.heap.size) U1 f ra rest) := ⟨rf, hrd⟩
    have OX_1 : Hid (U1.heap[O]? = some (.cells #[.int .i64 4, .int .i64 0, .string ⟨#[]⟩, .int .i64 0, .int .i64 0, .slice va m vc] 26 (0, 0)) ∧ O < U1.heap.size) := ⟨(hb1.block _ OX_0.out.2).trans OX_0.out.1, Nat.lt_of_lt_of_le OX_0.out.2 hb1.size⟩
    have RW_1 : Hid (RowE (fun b => w4.heap.size ≤ b ∧ b ≠ O) w4.heap.size (.slice va m vc) es U1) := RW_0.out.below hb1
    rw [hrl]
    have hS1 := And.intro (hS.1.trans (hb1.mono hS.1.size)) (Nat.le_trans hS.2 hb1.size)
    clear hb1 her hre hrc hrd hrl
    show K _ U1
    refine hK.out _ _ hS1 (fun hS => ?_)
    clear hK K
    refine rdy [7] (.cons rfl (fun K hK => ?_) .nil)
    obtain ⟨tf, htf⟩ := SR_1.out
    have hRW := RW_1.out
    rw [OWW.out.2] at hRW
    refine step_rowE rfl (.tmp 68) (.tmp 73) rfl (w := U1) (ok := fun b => w4.heap.size ≤ b ∧ b ≠ O) (B := w4.heap.size) (v := .slice va es.length vc) (es := es) hRW (F := tf) (a := ra) (l := rest) (cap := rc) (by rw [← OWW.out.2]; rfl) rfl (Dc.stay (fun _ _ => rfl) (fun k hk => ⟨⟨Nat.le_trans HC0.out.2.2.2.2.2.1.size hk.1, by have := (Array.getElem?_eq_some_iff.1 HC0.out.1).1; have := hk.1; omega⟩, hk.2, fun e => by have h1 := (HC0.out.2.1.own.lt k e.symm).2; have := hk.1; omega⟩) _ _ _ htf) hS.1.size (by have h1 := HC0.out.2.2.2.2.1; have h2 := LEN2.out; omega) ?_
    intro v' U2 fs hfs hr hb hwo hg
    have OX_2 : Hid (U2.heap[O]? = some (.cells #[.int .i64 4, .int .i64 0, .string ⟨#[]⟩, .int .i64 0, .int .i64 0, .slice va m vc] 26 (0, 0)) ∧ O < U2.heap.size) := ⟨(hg.block _ OX_1.out.2 (fun e => HC0.out.2.2.1 e.symm)).trans OX_1.out.1, Nat.lt_of_lt_of_le OX_1.out.2 hb.size⟩
    have hS2 : Below w4.heap.size w4 U2 ∧ wc.heap.size ≤ U2.heap.size := ⟨hS.1.trans hb, Nat.le_trans hS.2 hb.size⟩
    obtain ⟨es', hes'⟩ : ∃ es', es' = es ++ fs := ⟨_, rfl⟩
    rw [← hes'] at hr
    obtain ⟨va', vc', rfl, hvc'⟩ := own_sliceL hr.own
    have RR : Hid (RowE (fun b => w4.heap.size ≤ b ∧ b ≠ O) w4.heap.size (.slice va' es'.length vc') es' U2 ∧ (Value.slice va' es'.length vc').ownBlock ≠ some O ∧ es'.map (·.1) = dw :: dx :: rest ∧ es'.length ≤ 200000) := by
     have hem : es'.map (·.1) = dw :: dx :: rest := by rw [hes', List.map_append, HC0.out.2.2.2.1, hfs]; rfl
     refine ⟨hr, fun e => ?_, hem, ?_⟩
     ·rcases hwo with h | h
      ·exact HC0.out.2.2.1 (h.symm.trans e)
      ·have h2 := Option.some.inj (h.symm.trans e); have h3 := OX_1.out.2; omega
     ·have h1 := congrArg List.length hem; rw [List.length_map] at h1; have h2 := LEN2.out; simp only [List.length_cons] at h1; omega
    obtain ⟨m', hm'⟩ : ∃ m', m' = es'.length := ⟨_, rfl⟩
    rw [← hm']
    have HM := hidd hm'
    clear hfs hr hb hwo hg htf hRW hvc' hes' hm'
    show K _ U2
    refine hK.out _ _ hS2 (fun hS => ?_)
    clear hK K
    refine tk 8 (.pointer (some ⟨O, 5, none⟩)) rfl (Or.inl ⟨by rfl, fun u hu => by go_simp⟩) hS ?_
    simp only [Act.put, List.setIfInBounds_toArray, List.set_cons_zero, List.set_cons_succ]
    refine rdy [9] (.cons rfl (fun K hK => ?_) .nil)
    have q0 : U2.cell? ⟨O, 5, none⟩ = some _ := (cellO OX_2.out.1).trans rfl
    have z0 : U2.frozen? ⟨O, 5, none⟩ = false := by simp [World.frozen?, OX_2.out.1]
    go_simp
    refine hK.out _ _ ⟨hS.1.setCell (p := ⟨O, 5, none⟩) HC0.out.2.2.2.2.2.2 _, by simpa using hS.2⟩ (fun hS => ?_)
    clear hK K
    refine wpAnyH_done (by kernel_rfl) ?_ _
    clear q0 z0
    have hoy := (cell_setL OX_2.out.1 (.slice va' m' vc') : (U2.setCell ⟨O, 5, none⟩ (.slice va' m' vc')).heap[O]? = some (.cells #[.int .i64 4, .int .i64 0, .string ⟨#[]⟩, .int .i64 0, .int .i64 0, .slice va' m' vc'] 26 (0, 0)))
    have FIN : Hid ((U2.setCell ⟨O, 5, none⟩ (.slice va' m' vc')).heap[O]? = some (.cells #[.int .i64 4, .int .i64 0, .string ⟨#[]⟩, .int .i64 0, .int .i64 0, .slice va' m' vc'] 26 (0, 0)) ∧ RowE (fun b => w4.heap.size ≤ b ∧ b ≠ O) w4.heap.size (.slice va' es'.length vc') es' (U2.setCell ⟨O, 5, none⟩ (.slice va' m' vc')) ∧ Below w4.heap.size w4 (U2.setCell ⟨O, 5, none⟩ (.slice va' m' vc'))) := ⟨hoy, RR.out.1.keep ((Keep.refl O U2).setCell ⟨O, 5, none⟩ rfl _) RR.out.2.1 (fun k hk => hk.2), hS.1⟩
    clear hoy hS
    generalize (U2.setCell ⟨O, 5, none⟩ (.slice va' m' vc')) = wf at FIN ⊢
    have N3 := N1.out.after FIN.out.2.2
    have NH := hidd N3
    obtain ⟨q, q0, q1, q2, q3, q4, q5, qz⟩ := N3
    simp only at q0 q1 q2 q3 q4 q5
    have p0 : wf.cell? ⟨O, 0, none⟩ = some _ := (cellO FIN.out.1).trans rfl
    have p1 : wf.cell? ⟨O, 1, none⟩ = some _ := (cellO FIN.out.1).trans rfl
    have p2 : wf.cell? ⟨O, 2, none⟩ = some _ := (cellO FIN.out.1).trans rfl
    have p3 : wf.cell? ⟨O, 3, none⟩ = some _ := (cellO FIN.out.1).trans rfl
    have p4 : wf.cell? ⟨O, 4, none⟩ = some _ := (cellO FIN.out.1).trans rfl
    have p5 : wf.cell? ⟨O, 5, none⟩ = some _ := (cellO FIN.out.1).trans rfl
    go_wp2_with fail
    have hl : m' = (dw :: dx :: rest).length := by rw [HM.out, ← RR.out.2.2.1, List.length_map]
    refine bodyPost_ret (ret87 (NH.out.store (liD (dw :: dx :: rest)) (.slice va' m' vc')) rfl) rfl ?_
    refine ⟨below_sixN (HB1.out.1.trans (FIN.out.2.2.mono HB1.out.1.size)) (Nat.le_succ _) _ _ _ _ _ _, va', vc', by rw [hl]; rfl, ?_⟩
    have hr := FIN.out.2.1
    have hz := HB1.out.2.1
    rw [← HM.out] at hr
    exact rowE_tell ((hr.keep (((((((Keep.refl (w.heap.size + 1) wf).setCell ⟨w.heap.size + 1, 0, none⟩ rfl _).setCell ⟨w.heap.size + 1, 1, none⟩ rfl _).setCell ⟨w.heap.size + 1, 2, none⟩ rfl _).setCell ⟨w.heap.size + 1, 3, none⟩ rfl _).setCell ⟨w.heap.size + 1, 4, none⟩ rfl _).setCell ⟨w.heap.size + 1, 5, none⟩ rfl _) (fun e => by have h3 := (hr.own.lt _ e).1; omega) (fun k hk => by omega)).low (B' := w.heap.size) (by omega)) HM.out RR.out.2.2.1 (Nat.le_refl _) (fun k hk => by omega) RR.out.2.2.2
   ·go_simp
    refine Calls.mono (SRN.out (by omega) wc.drew (PX.out _ hS.1).1) ?_
    rintro e U1 ⟨hb1, ra, rc, er, rfl, her, hre⟩
    obtain ⟨ra2, rc2, rf, hrv, hrc, hrd⟩ := hre.lie (ok' := fun b => wc.heap.size ≤ b) (by have h1 := congrArg List.length her; rw [List.length_map] at h1; have h2 := LEN2.out; omega) (fun k hk => Nat.le_trans hS.2 hk) (fun k hk _ => Nat.le_trans hS.2 hk)
    rw [her] at hrv hrd
    simp only [Value.slice.injEq] at hrv
    obtain ⟨rfl, hrl, rfl⟩ := hrv
    have SR_1 : Hid (∃ f, Dc (fun b => wc.heap.size ≤ b ∧ b < U1.heap.size) U1 f ra rest) := ⟨rf, hrd⟩
    have OX_1 : Hid (U1.heap[O]? = some (.cells #[.int .i64 4, .int .i64 0, .string ⟨#[]⟩, .int .i64 0, .int .i64 0, .slice va m vc] 26 (0, 0)) ∧ O < U1.heap.size) := ⟨(hb1.block _ OX_0.out.2).trans OX_0.out.1, Nat.lt_of_lt_of_le OX_0.out.2 hb1.size⟩
    have RW_1 : Hid (RowE (fun b => w4.heap.size ≤ b ∧ b ≠ O) w4.heap.size (.slice va m vc) es U1) := RW_0.out.below hb1
    rw [hrl]
    have hS1 := And.intro (hS.1.trans (hb1.mono hS.1.size)) (Nat.le_trans hS.2 hb1.size)
    clear hb1 her hre hrc hrd hrl
    show K _ U1
    refine hK.out _ _ hS1 (fun hS => ?_)
    clear hK K
    refine rdy [1] (.cons rfl (fun K hK => ?_) .nil)
    have z0 : U1.cell? ⟨O, 5, none⟩ = some (.slice va m vc) := (cellO OX_1.out.1).trans rfl
    go_simp
    refine hK.out _ _ hS (fun hS => ?_)
    clear hK K z0
    refine rdy [7] (.cons rfl (fun K hK => ?_) .nil)
    obtain ⟨tf, htf⟩ := SR_1.out
    have hRW := RW_1.out
    rw [OWW.out.2] at hRW
    refine step_rowE rfl (.tmp 68) (.tmp 73) rfl (w := U1) (ok := fun b => w4.heap.size ≤ b ∧ b ≠ O) (B := w4.heap.size) (v := .slice va es.length vc) (es := es) hRW (F := tf) (a := ra) (l := rest) (cap := rc) (by rw [← OWW.out.2]; rfl) rfl (Dc.stay (fun _ _ => rfl) (fun k hk => ⟨⟨Nat.le_trans HC0.out.2.2.2.2.2.1.size hk.1, by have := (Array.getElem?_eq_some_iff.1 HC0.out.1).1; have := hk.1; omega⟩, hk.2, fun e => by have h1 := (HC0.out.2.1.own.lt k e.symm).2; have := hk.1; omega⟩) _ _ _ htf) hS.1.size (by have h1 := HC0.out.2.2.2.2.1; have h2 := LEN2.out; omega) ?_
    intro v' U2 fs hfs hr hb hwo hg
    have OX_2 : Hid (U2.heap[O]? = some (.cells #[.int .i64 4, .int .i64 0, .string ⟨#[]⟩, .int .i64 0, .int .i64 0, .slice va m vc] 26 (0, 0)) ∧ O < U2.heap.size) := ⟨(hg.block _ OX_1.out.2 (fun e => HC0.out.2.2.1 e.symm)).trans OX_1.out.1, Nat.lt_of_lt_of_le OX_1.out.2 hb.size⟩
    have hS2 : Below w4.heap.size w4 U2 ∧ wc.heap.size ≤ U2.heap.size := ⟨hS.1.trans hb, Nat.le_trans hS.2 hb.size⟩
    obtain ⟨es', hes'⟩ : ∃ es', es' = es ++ fs := ⟨_, rfl⟩
    rw [← hes'] at hr
    obtain ⟨va', vc', rfl, hvc'⟩ := own_sliceL hr.own
    have RR : Hid (RowE (fun b => w4.heap.size ≤ b ∧ b ≠ O) w4.heap.size (.slice va' es'.length vc') es' U2 ∧ (Value.slice va' es'.length vc').ownBlock ≠ some O ∧ es'.map (·.1) = dw :: dx :: rest ∧ es'.length ≤ 200000) := by
     have hem : es'.map (·.1) = dw :: dx :: rest := by rw [hes', List.map_append, HC0.out.2.2.2.1, hfs]; rfl
     refine ⟨hr, fun e => ?_, hem, ?_⟩
     ·rcases hwo with h | h
      ·exact HC0.out.2.2.1 (h.symm.trans e)
      ·have h2 := Option.some.inj (h.symm.trans e); have h3 := OX_1.out.2; omega
     ·have h1 := congrArg List.length hem; rw [List.length_map] at h1; have h2 := LEN2.out; simp only [List.length_cons] at h1; omega
    obtain ⟨m', hm'⟩ : ∃ m', m' = es'.length := ⟨_, rfl⟩
    rw [← hm']
    have HM := hidd hm'
    clear hfs hr hb hwo hg htf hRW hvc' hes' hm'
    show K _ U2
    refine hK.out _ _ hS2 (fun hS => ?_)
    clear hK K
    refine tk 8 (.pointer (some ⟨O, 5, none⟩)) rfl (Or.inl ⟨by rfl, fun u hu => by go_simp⟩) hS ?_
    simp only [Act.put, List.setIfInBounds_toArray, List.set_cons_zero, List.set_cons_succ]
    refine rdy [9] (.cons rfl (fun K hK => ?_) .nil)
    have q0 : U2.cell? ⟨O, 5, none⟩ = some _ := (cellO OX_2.out.1).trans rfl
    have z0 : U2.frozen? ⟨O, 5, none⟩ = false := by simp [World.frozen?, OX_2.out.1]
    go_simp
    refine hK.out _ _ ⟨hS.1.setCell (p := ⟨O, 5, none⟩) HC0.out.2.2.2.2.2.2 _, by simpa using hS.2⟩ (fun hS => ?_)
    clear hK K
    refine wpAnyH_done (by kernel_rfl) ?_ _
    clear q0 z0
    have hoy := (cell_setL OX_2.out.1 (.slice va' m' vc') : (U2.setCell ⟨O, 5, none⟩ (.slice va' m' vc')).heap[O]? = some (.cells #[.int .i64 4, .int .i64 0, .string ⟨#[]⟩, .int .i64 0, .int .i64 0, .slice va' m' vc'] 26 (0, 0)))
    have FIN : Hid ((U2.setCell ⟨O, 5, none⟩ (.slice va' m' vc')).heap[O]? = some (.cells #[.int .i64 4, .int .i64 0, .string ⟨#[]⟩, .int .i64 0, .int .i64 0, .slice va' m' vc'] 26 (0, 0)) ∧ RowE (fun b => w4.heap.size ≤ b ∧ b ≠ O) w4.heap.size (.slice va' es'.length vc') es' (U2.setCell ⟨O, 5, none⟩ (.slice va' m' vc')) ∧ Below w4.heap.size w4 (U2.setCell ⟨O, 5, none⟩ (.slice va' m' vc'))) := ⟨hoy, RR.out.1.keep ((Keep.refl O U2).setCell ⟨O, 5, none⟩ rfl _) RR.out.2.1 (fun k hk => hk.2), hS.1⟩
    clear hoy hS
    generalize (U2.setCell ⟨O, 5, none⟩ (.slice va' m' vc')) = wf at FIN ⊢
    have N3 := N1.out.after FIN.out.2.2
    have NH := hidd N3
    obtain ⟨q, q0, q1, q2, q3, q4, q5, qz⟩ := N3
    simp only at q0 q1 q2 q3 q4 q5
    have p0 : wf.cell? ⟨O, 0, none⟩ = some _ := (cellO FIN.out.1).trans rfl
    have p1 : wf.cell? ⟨O, 1, none⟩ = some _ := (cellO FIN.out.1).trans rfl
    have p2 : wf.cell? ⟨O, 2, none⟩ = some _ := (cellO FIN.out.1).trans rfl
    have p3 : wf.cell? ⟨O, 3, none⟩ = some _ := (cellO FIN.out.1).trans rfl
    have p4 : wf.cell? ⟨O, 4, none⟩ = some _ := (cellO FIN.out.1).trans rfl
    have p5 : wf.cell? ⟨O, 5, none⟩ = some _ := (cellO FIN.out.1).trans rfl
    go_wp2_with fail
    have hl : m' = (dw :: dx :: rest).length := by rw [HM.out, ← RR.out.2.2.1, List.length_map]
    refine bodyPost_ret (ret87 (NH.out.store (liD (dw :: dx :: rest)) (.slice va' m' vc')) rfl) rfl ?_
    refine ⟨below_sixN (HB1.out.1.trans (FIN.out.2.2.mono HB1.out.1.size)) (Nat.le_succ _) _ _ _ _ _ _, va', vc', by rw [hl]; rfl, ?_⟩
    have hr := FIN.out.2.1
    have hz := HB1.out.2.1
    rw [← HM.out] at hr
    exact rowE_tell ((hr.keep (((((((Keep.refl (w.heap.size + 1) wf).setCell ⟨w.heap.size + 1, 0, none⟩ rfl _).setCell ⟨w.heap.size + 1, 1, none⟩ rfl _).setCell ⟨w.heap.size + 1, 2, none⟩ rfl _).setCell ⟨w.heap.size + 1, 3, none⟩ rfl _).setCell ⟨w.heap.size + 1, 4, none⟩ rfl _).setCell ⟨w.heap.size + 1, 5, none⟩ rfl _) (fun e => by have h3 := (hr.own.lt _ e).1; omega) (fun k hk => by omega)).low (B' := w.heap.size) (by omega)) HM.out RR.out.2.2.1 (Nat.le_refl _) (fun k hk => by omega) RR.out.2.2.2
  exfalso
  have := HKN.out
  omega
end Go.Proofs.YtonafbennobgdaaGreatDoor
