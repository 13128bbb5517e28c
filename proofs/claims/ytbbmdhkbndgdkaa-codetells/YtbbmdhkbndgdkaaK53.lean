/- Chapter 8's laws: CodeTells, walked. -/
import Derived.Test.YtbbmdhkbndgdkaaK52
namespace Go.Proofs.Ytbbmdhkbndgdkaa
set_option linter.unusedVariables false
set_option linter.unusedSimpArgs false
open Go.RowKit

theorem compile_small (l : List Cor) : (compile l).2.length ≤ 500 ∧ ∀ p ∈ (compile l).2, p.code.length ≤ 6000 := by
  by_cases h : (compile l).1 = 0
  · obtain ⟨h1, h2⟩ := compile_ok h
    rw [h1]
    exact muchP_no h2
  · unfold compile at h ⊢
    by_cases a : wrongB l = 0
    · rw [if_neg (by simpa using a)] at h ⊢
      by_cases b : muchP (protosOf l) = true
      · rw [if_pos b]; simp
      · rw [if_neg b] at h; simp at h
    · rw [if_pos (by simpa using a)]; simp

set_option maxRecDepth 100000 in
set_option maxHeartbeats 3200000 in
theorem SameUnit_any (nm : ByteArray) (pa qa : Option Addr) (pc qc pn qn : Nat) (ps qs : List PE) (w : World) (hpl : pn = ps.length) (hql : qn = qs.length) (hp : PnOk w (.slice pa pn pc) ps) (hq : PnOk w (.slice qa qn qc) qs) (h : ps.map PE.pro = qs.map PE.pro) (hn : ps.length ≤ 1000000000) (hm : ∀ p ∈ ps, p.es.length ≤ 1000000000) (hpc : pn ≤ pc) (hqc : qn ≤ qc) :
    Calls Try.prog 9 #[.agg #[.string nm, .slice pa pn pc], .agg #[.string nm, .slice qa qn qc]] w (Yes w) := by
  have hb : Below w.heap.size w ((w.alloc (.cells #[.string nm, .slice pa pn pc] 27)).alloc (.cells #[.string nm, .slice qa qn qc] 27)) := ((Below.refl _ _).alloc (Nat.le_refl _) _).alloc (by simp) _
  have SP := hidd (SameProtos_any pa qa pc qc ps qs ((w.alloc (.cells #[.string nm, .slice pa pn pc] 27)).alloc (.cells #[.string nm, .slice qa qn qc] 27)) (by rw [← hpl]; exact hp.lift hb) (by rw [← hql]; exact hq.lift hb) h hn hm (by omega) (by omega))
  rw [← hpl, ← hql] at SP
  have HB := hidd hb
  have hnm : (nm.toList == nm.toList) = true := by simp
  clear hp hq h hm hb hpl hql hn
  go_enter Try.func9, Try.ntmps9
  go_wp2_with fail
  refine SP.out.mono ?_
  rintro e w1 ⟨rfl, hb1⟩
  have BE := hidd (HB.out.trans (hb1.mono HB.out.size))
  clear hb1 SP HB
  go_wp2_with fail
  go_ret
  exact ⟨rfl, BE.out⟩

set_option maxRecDepth 100000 in
set_option maxHeartbeats 3200000 in
theorem CodeTells_walk (F : Nat) (nm : ByteArray) (l : List Cor) (a : Option Addr) (cap : Nat) (w : World) (hc : Cc w.heap.size w F a l) (hcap : l.length ≤ cap) (hn : nmL l) (hnm : nm.size ≤ 281474976710656) :
    Calls Try.prog 3 #[.agg #[.string nm, .slice a l.length cap]] w fun e w' => e = .returned (.bool true) ∧ Below w.heap.size w w' := by
  have hlen := hc.len
  have HB0 : Hid (Below w.heap.size w (w.alloc (.cells #[.string nm, .slice a l.length cap] 24))) := (Below.refl _ _).alloc (Nat.le_refl _) _
  have HP0 := hidd (World.alloc_heap_new w (.cells #[.string nm, .slice a l.length cap] 24))
  have CO : Hid (∀ W, Below w.heap.size w W → Calls Try.prog 7 #[.agg #[.string nm, .slice a l.length cap]] W (ToldC nm (compile l) W)) := fun W hb => Compile_any w.heap.size F nm l a cap W (hc.below hb) hb.size hcap hn hnm
  have CR : Hid (∀ W, Below w.heap.size w W → Calls Try.prog 8 #[.agg #[.string nm, .slice a l.length cap]] W (ToldC nm (compile l) W)) := fun W hb => refCompile_any w.heap.size F nm l a cap W (hc.below hb) hb.size hcap hn
  have SM := hidd (compile_small l)
  clear hc hn
  generalize compile l = RR at CO CR SM
  obtain ⟨r1, r2⟩ := RR
  simp only at SM
  have c0 : (w.alloc (.cells #[.string nm, .slice a l.length cap] 24)).cell? ⟨w.heap.size, 0, none⟩ = some (.string nm) := (cellOf HP0.out).trans rfl
  have c1 : (w.alloc (.cells #[.string nm, .slice a l.length cap] 24)).cell? ⟨w.heap.size, 1, none⟩ = some (.slice a l.length cap) := (cellOf HP0.out).trans rfl
  go_enter Try.func3, Try.ntmps3
  go_wp2_with fail
  refine (CO.out _ HB0.out).mono ?_
  rintro e v1 ⟨hb, nm1, pv1, ps1, rfl, hx1, hx2, hps1, hpn1⟩
  obtain ⟨pa, pc, rfl, hpc, _⟩ := id hpn1
  simp only at hx1 hx2 hps1
  simp only
  have ba1 : Below v1.heap.size v1 (v1.alloc (.cells #[.string nm1, .slice pa ps1.length pc] 27)) := (Below.refl _ _).alloc (Nat.le_refl _) _
  have bb := hb.trans (ba1.mono hb.size)
  have HB1 := hidd (HB0.out.trans (bb.mono HB0.out.size))
  have HP1 := hidd ((bb.block _ (Array.getElem?_eq_some_iff.1 HP0.out).1).trans HP0.out)
  have HU1 := hidd (World.alloc_heap_new v1 (.cells #[.string nm1, .slice pa ps1.length pc] 27))
  have PN1 := hidd (hpn1.lift ba1)
  have X1 : Hid ((r1 = 0 → nm1 = nm) ∧ (r1 ≠ 0 → nm1 = ⟨#[]⟩) ∧ ps1.map PE.pro = r2) := ⟨hx1, hx2, hps1⟩
  obtain ⟨pn, hpn⟩ : ∃ n, n = ps1.length := ⟨_, rfl⟩
  rw [← hpn] at HB1 HP1 HU1 PN1 hpc ⊢
  have HN1 := hidd hpn
  clear hb bb ba1 hx1 hx2 hps1 hpn1 hpn c0 c1 CO HB0 HP0
  go_upto_region 2 with fail
  generalize v1.alloc (.cells #[.string nm1, .slice pa pn pc] 27) = W1 at HB1 HP1 HU1 PN1 ⊢
  generalize v1.heap.size = ub at HU1 ⊢
  have c0 : W1.cell? ⟨w.heap.size, 0, none⟩ = some (.string nm) := (cellOf HP1.out).trans rfl
  have c1 : W1.cell? ⟨w.heap.size, 1, none⟩ = some (.slice a l.length cap) := (cellOf HP1.out).trans rfl
  go_wp2_with fail
  refine (CR.out _ HB1.out).mono ?_
  rintro e v2 ⟨hb, nm2, pv2, ps2, rfl, hx1, hx2, hps2, hpn2⟩
  obtain ⟨qa, qc, rfl, hqc, _⟩ := id hpn2
  simp only at hx1 hx2 hps2
  simp only
  have ba2 : Below v2.heap.size v2 (v2.alloc (.cells #[.string nm2, .slice qa ps2.length qc] 27)) := (Below.refl _ _).alloc (Nat.le_refl _) _
  have bb := hb.trans (ba2.mono hb.size)
  have HB2 := hidd (HB1.out.trans (bb.mono HB1.out.size))
  have HU2 := hidd ((bb.block _ (Array.getElem?_eq_some_iff.1 HU1.out).1).trans HU1.out)
  have HV2 := hidd (World.alloc_heap_new v2 (.cells #[.string nm2, .slice qa ps2.length qc] 27))
  have P12 := hidd (PN1.out.lift bb)
  have PN2 := hidd (hpn2.lift ba2)
  obtain rfl : nm1 = nm2 := by
    by_cases h0 : r1 = 0
    · rw [X1.out.1 h0, hx1 h0]
    · rw [X1.out.2.1 h0, hx2 h0]
  have hpp : ps1.map PE.pro = ps2.map PE.pro := by rw [X1.out.2.2, hps2]
  obtain ⟨qn, hqn⟩ : ∃ n, n = ps2.length := ⟨_, rfl⟩
  rw [← hqn] at HB2 HU2 HV2 P12 PN2 hqc ⊢
  have SU := hidd (SameUnit_any nm1 pa qa pc qc pn qn ps1 ps2 (v2.alloc (.cells #[.string nm1, .slice qa qn qc] 27)) HN1.out hqn P12.out PN2.out hpp (by
    have h5 := congrArg List.length X1.out.2.2
    rw [List.length_map] at h5
    have := SM.out.1
    omega) (fun p hp => by
    have h5 : p.pro ∈ r2 := by rw [← X1.out.2.2]; exact List.mem_map_of_mem hp
    have := SM.out.2 _ h5
    have h6 : p.pro.code.length = p.es.length := by simp [PE.pro]
    omega) hpc hqc)
  have hrr : (r1 == r1) = true := by simp
  clear hb bb ba2 hx1 hx2 hps2 hpn2 c0 c1 CR HB1 HP1 HU1 PN1 P12 PN2 hpp hqn X1 SM
  go_upto_region 3 with fail
  generalize v2.alloc (.cells #[.string nm1, .slice qa qn qc] 27) = W2 at HB2 HU2 HV2 SU ⊢
  generalize v2.heap.size = vb at HV2 ⊢
  have u0 : W2.cell? ⟨ub, 0, none⟩ = some (.string nm1) := (cellOf HU2.out).trans rfl
  have u1 : W2.cell? ⟨ub, 1, none⟩ = some (.slice pa pn pc) := (cellOf HU2.out).trans rfl
  have v0 : W2.cell? ⟨vb, 0, none⟩ = some (.string nm1) := (cellOf HV2.out).trans rfl
  have v1' : W2.cell? ⟨vb, 1, none⟩ = some (.slice qa qn qc) := (cellOf HV2.out).trans rfl
  go_wp2_with fail
  refine SU.out.mono ?_
  rintro e w3 ⟨rfl, hb3⟩
  have BE := hidd (HB2.out.trans (hb3.mono HB2.out.size))
  clear hb3 SU
  go_wp2_with fail
  go_ret
  exact ⟨rfl, BE.out⟩
end Go.Proofs.Ytbbmdhkbndgdkaa
