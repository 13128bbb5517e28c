/- Chapter 9's laws: ObjectMade, walked. -/
import Derived.Test.YtfmanhkeclogfaaGreatDoorK44
import Derived.Test.YtfmanhkeclogfaaGreatDoorK15
import Derived.Test.YtfmanhkeclogfaaGreatDoorK48
import Derived.Test.YtfmanhkeclogfaaGreatDoorK46
import Derived.Test.YtfmanhkeclogfaaGreatDoorK14
namespace Go.Proofs.YtfmanhkeclogfaaGreatDoor
set_option linter.unusedVariables false
set_option linter.unusedSimpArgs false
open Go.RowKit

/-- What the law asks of an instruction. -/
def MadeI (x : In) : Prop := (x.op = 5 ∨ x.op = 12 ∨ x.op = 13 → nameW x = 0) ∧ (x.op = 8 → x.a ≤ 2000)
set_option maxRecDepth 100000 in
set_option maxHeartbeats 6400000 in
theorem ObjectMade_walk (F : Nat) (nm : ByteArray) (l : List Cor) (a : Option Addr) (cap : Nat) (w : World) (hc : Cc w.heap.size w F a l) (hcap : l.length ≤ cap) (hn : nmL l) (hnm : nm.size ≤ 281474976710656) (htab : TabS w) :
    Calls Tryz.prog 5 #[.agg #[.string nm, .slice a l.length cap]] w fun e w' => e = .returned (.bool true) ∧ Below w.heap.size w w' := by
  have hlen := hc.len
  have hb0 : Below w.heap.size w (w.alloc (.cells #[.string nm, .slice a l.length cap] 39)) := (Below.refl _ _).alloc (Nat.le_refl _) _
  have HB0 := hidd hb0
  have HP0 := hidd (World.alloc_heap_new w (.cells #[.string nm, .slice a l.length cap] 39))
  have CO : Hid (∀ W, Below w.heap.size w W → Calls Tryz.prog 17 #[.agg #[.string nm, .slice a l.length cap]] W (ToldC nm (compile l) W)) := fun W hb => Compile_any w.heap.size F nm l a cap W (hc.below hb) hb.size hcap hn hnm
  have RW : Hid (∀ W, Below w.heap.size w W → Calls Tryz.prog 18 #[.slice (some ⟨W.heap.size, 0, none⟩) 1 1] (W.alloc (.cells #[.string nm, .slice a l.length cap] 39)) fun e w' => e = .returned (fv (wrongB l, 0)) ∧ Below (W.alloc (.cells #[.string nm, .slice a l.length cap] 39)).heap.size (W.alloc (.cells #[.string nm, .slice a l.length cap] 39)) w') := fun W hb => refWrong1 w.heap.size F W.heap.size nm l a cap _ (hc.below (hb.alloc hb.size _)) (by have := hb.size; simp; omega) hcap (World.alloc_heap_new W _)
  have CR : Hid ((compile l).1 = 0 → plainB nm = true → (∀ P, P ∈ (compile l).2 → ∀ x, x ∈ P.code → MadeI x) → wrongU nm (compile l).2 = 0) := fun h1 h2 h3 => compiled_right nm l h1 h2 h3
  have CL5 : Hid ((compile l).1 = 0 → (compile l).2.length ≤ 500 ∧ ∀ P, P ∈ (compile l).2 → P.code.length ≤ 6000) := by
    intro h
    unfold compile at h ⊢
    by_cases e1 : wrongB l = 0
    · rw [if_neg (by simpa using e1)] at h ⊢
      by_cases e2 : muchP (protosOf l) = true
      · rw [if_pos e2] at h; simp at h
      · rw [if_neg e2]
        unfold muchP at e2
        simp at e2
        exact ⟨e2.1, e2.2⟩
    · rw [if_pos (by simpa using e1)] at h
      exact absurd h e1
  have HT := hidd htab
  have hnm' : nm.size ≤ maxLen := Nat.le_trans hnm (by decide)
  clear hc hn hb0 htab hnm
  generalize compile l = RR at CO CR CL5
  obtain ⟨r1, PP⟩ := RR
  simp only at CR CL5
  go_enter Tryz.func5, Tryz.ntmps5
  go_wp2_with fail
  refine (alive9_any _ (HT.out.below HB0.out)).mono ?_
  rintro e v0 ⟨rfl, hb⟩
  have HB1 := hidd (HB0.out.trans (hb.mono HB0.out.size))
  have HP1 := hidd ((hb.block _ (Array.getElem?_eq_some_iff.1 HP0.out).1).trans HP0.out)
  have c0 : v0.cell? ⟨w.heap.size, 0, none⟩ = some (.string nm) := (cellO HP1.out).trans rfl
  have c1 : v0.cell? ⟨w.heap.size, 1, none⟩ = some (.slice a l.length cap) := (cellO HP1.out).trans rfl
  clear hb HB0 HP0
  go_wp2_with fail
  refine (CO.out _ HB1.out).mono ?_
  rintro e v1 ⟨hb, nm', pv, ps, rfl, hq1, hq2, hps, hpn⟩
  simp only at hps hq1 hq2 ⊢
  have HB2 := hidd (HB1.out.trans (hb.mono HB1.out.size))
  have HP2 := hidd ((hb.block _ (Array.getElem?_eq_some_iff.1 HP1.out).1).trans HP1.out)
  clear hb HB1 HP1 c0 c1 CO hq2
  obtain ⟨pa, pc, rfl, hpc, hpr, hpo⟩ := hpn
  have hpe : PEs (fun k => k < v1.heap.size) v1 pa pc ps := ⟨hpc, hpr, hpo⟩
  clear hpr hpo
  by_cases y0 : r1 = 0
  case neg =>
    have y0' : (r1 != 0) = true := by simpa using y0
    have GW := hidd (HB2.out.trans (((Below.refl _ _).alloc (Nat.le_refl _) (.cells #[.string nm', .slice pa ps.length pc] 24)).mono HB2.out.size))
    clear CR RW CL5 hps hpe hq1
    go_wp2_with fail
    go_ret
    exact ⟨rfl, GW.out⟩
  subst y0
  obtain rfl := hq1 rfl
  have bU := (Below.refl v1.heap.size v1).alloc (Nat.le_refl _) (.cells #[.string nm', .slice pa ps.length pc] 24)
  have HU := hidd (World.alloc_heap_new v1 (.cells #[.string nm', .slice pa ps.length pc] 24))
  have HB3 := hidd (HB2.out.trans (bU.mono HB2.out.size))
  have HP3 := hidd ((bU.block _ (Array.getElem?_eq_some_iff.1 HP2.out).1).trans HP2.out)
  have hpl := PEs.pl (B := v1.heap.size) (fun k hk => hk) hpe
  rw [hps] at hpl
  have HPL := hidd ((hpl.below bU).mono bU.size)
  have hln : ps.length = PP.length := by rw [← hps, List.length_map]
  obtain ⟨n, hn⟩ : ∃ n, n = PP.length := ⟨_, rfl⟩
  have HN := hidd hn
  have hn5 : n ≤ 500 := by rw [hn]; exact (CL5.out rfl).1
  have HC6 := hidd (CL5.out rfl).2
  rw [hln, ← hn] at HU HB3 HP3 HPL hpc ⊢
  clear hpl bU HB2 HP2 hps hpe hln hn CL5 hq1
  go_upto_region 4 with fail
  generalize v1.alloc (.cells #[.string nm', .slice pa n pc] 24) = V at HU HB3 HP3 HPL ⊢
  obtain ⟨ub, hub⟩ : ∃ u, u = v1.heap.size := ⟨_, rfl⟩
  rw [← hub] at HU ⊢
  clear hub
  have c0 : V.cell? ⟨w.heap.size, 0, none⟩ = some (.string nm') := (cellO HP3.out).trans rfl
  have c1 : V.cell? ⟨w.heap.size, 1, none⟩ = some (.slice a l.length cap) := (cellO HP3.out).trans rfl
  have RW2 := hidd (RW.out V HB3.out)
  have FF := field_fault (wrongB l) 0
  unfold fv at RW2
  simp only at RW2
  have ba : Below V.heap.size V (V.alloc (.cells #[.string nm', .slice a l.length cap] 39)) := (Below.refl _ _).alloc (Nat.le_refl _) _
  have HBA := hidd ba
  generalize wrongB l = wl at RW2 FF
  go_wp2_with fail
  refine RW2.out.mono ?_
  rintro e W2 ⟨rfl, hb⟩
  have HBV := hidd (HBA.out.trans (hb.mono HBA.out.size))
  have HB4 := hidd (HB3.out.trans (HBV.out.mono HB3.out.size))
  have HU4 := hidd ((HBV.out.block _ (Array.getElem?_eq_some_iff.1 HU.out).1).trans HU.out)
  have HPL4 := hidd ((HPL.out.below HBV.out).mono HBV.out.size)
  clear hb ba HBA HBV RW2 RW c0 c1 HP3 HU HPL HB3
  by_cases y1 : wl = 0
  case neg =>
    have y1' : (wl != 0) = true := by simpa using y1
    clear CR HC6
    go_wp2_with fail
    go_ret
    exact ⟨rfl, HB4.out⟩
  subst y1
  have u1 : W2.cell? ⟨ub, 1, none⟩ = some (.slice pa n pc) := (cellO HU4.out).trans rfl
  go_wp2_with fail
  clear u1 FF
  go_loopw [28] (fun i wr => ∃ j : Nat, j ≤ n ∧ i = .int .i64 j ∧ Hid (Below W2.heap.size W2 wr ∧ ∀ i P, i < j → PP[i]? = some P → ∀ x, x ∈ P.code → MadeI x)) (fun i _ => n - (intOf i).toNat)
  case atStart => exact ⟨0, Nat.zero_le _, rfl, Below.refl _ _, fun i P h => absurd h (Nat.not_lt_zero _)⟩
  case round =>
  obtain ⟨j, hj, rfl, HR⟩ := hrel
  by_cases hlt : j < n
  · have hjP : j < PP.length := by rw [← HN.out]; exact hlt
    have hP : PP[j]? = some PP[j] := List.getElem?_eq_getElem hjP
    obtain ⟨P, hPe⟩ : ∃ P, PP[j] = P := ⟨_, rfl⟩
    rw [hPe] at hP
    clear hPe
    have HP := hidd hP
    obtain ⟨pb, po, rfl, hpb, hall⟩ := HPL4.out.at hP
    obtain ⟨ca, cc, p0, p1, hcc, hcl⟩ := hall j _ hP
    have q0 := (HR.out.1.cell (p := ⟨pb, po + j * 2, none⟩) hpb).trans p0
    have q1 := (HR.out.1.cell (p := ⟨pb, po + j * 2 + 1, none⟩) hpb).trans p1
    obtain ⟨cn, hcn⟩ : ∃ n, n = P.code.length := ⟨_, rfl⟩
    have HCN := hidd hcn
    have hc6 : cn ≤ 6000 := by rw [hcn]; exact HC6.out P (List.mem_of_getElem? hP)
    have HCL := hidd hcl
    rw [← hcn] at q1 hcc
    clear hcn p0 p1 hcl hall hP
    have HX0 := hidd (HR.out.1.alloc HR.out.1.size (.cells #[.int .i64 P.args, .slice ca cn cc] 47))
    go_wp2_with fail
    clear q0 q1
    go_loopw [35] (fun i wz => ∃ k : Nat, k ≤ cn ∧ i = .int .i64 k ∧ Hid (Below W2.heap.size W2 wz ∧ ∀ i y, i < k → P.code[i]? = some y → MadeI y)) (fun i _ => cn - (intOf i).toNat)
    case atStart => exact ⟨0, Nat.zero_le _, rfl, HX0.out, fun i y h => absurd h (Nat.not_lt_zero _)⟩
    case round =>
    obtain ⟨k, hk, rfl, HK⟩ := hrel
    by_cases hkl : k < cn
    · have hkc : k < P.code.length := by rw [← HCN.out]; exact hkl
      have hx : P.code[k]? = some P.code[k] := List.getElem?_eq_getElem hkc
      obtain ⟨x, hxe⟩ : ∃ x, P.code[k] = x := ⟨_, rfl⟩
      rw [hxe] at hx
      clear hxe
      have HX := hidd hx
      obtain ⟨cb, co, rfl, hcb, hins⟩ : ∃ b o, ca = some ⟨b, o, none⟩ ∧ b < W2.heap.size ∧ ∀ i x, P.code[i]? = some x → ∃ qa qc, IL W2.heap.size W2 b (o + i * 11) x qa qc := by
        rcases HCL.out with h | h
        · rw [h] at hkc; simp at hkc
        · exact h
      obtain ⟨qa, qc, hil⟩ := hins k x hx
      have hil2 := hil.below hcb HK.out.1
      obtain ⟨i0, i1, i2, i3, i4, i5, i6, i7, i8, i9, i10, l3, l4, _, _, _⟩ := hil2
      have HBI := hidd (HK.out.1.alloc HK.out.1.size (.cells #[.int .i64 x.op, .int .i64 x.a, .int .i64 x.n, .string x.lib, .string x.own, .int .i64 x.quote.kind, .int .i64 x.quote.n, .string x.quote.name, .int .i64 x.quote.stamp, .int .i64 x.quote.lib, .slice qa x.quote.kids.length qc] 52))
      have HI := hidd (World.alloc_heap_new wr (.cells #[.int .i64 x.op, .int .i64 x.a, .int .i64 x.n, .string x.lib, .string x.own, .int .i64 x.quote.kind, .int .i64 x.quote.n, .string x.quote.name, .int .i64 x.quote.stamp, .int .i64 x.quote.lib, .slice qa x.quote.kids.length qc] 52))
      clear hil hins hx
      go_upto_region 12 with fail
      clear i0 i1 i2 i3 i4 i5 i6 i7 i8 i9 i10
      generalize wr.alloc (.cells #[.int .i64 x.op, .int .i64 x.a, .int .i64 x.n, .string x.lib, .string x.own, .int .i64 x.quote.kind, .int .i64 x.quote.n, .string x.quote.name, .int .i64 x.quote.stamp, .int .i64 x.quote.lib, .slice qa x.quote.kids.length qc] 52) = V2 at HBI HI ⊢
      obtain ⟨ib, hib⟩ : ∃ u, u = wr.heap.size := ⟨_, rfl⟩
      rw [← hib] at HI ⊢
      clear hib
      have i0 : V2.cell? ⟨ib, 0, none⟩ = some (Value.int .i64 x.op) := (cellO HI.out).trans rfl
      have i1 : V2.cell? ⟨ib, 1, none⟩ = some (.int .i64 x.a) := (cellO HI.out).trans rfl
      have i2 : V2.cell? ⟨ib, 2, none⟩ = some (.int .i64 x.n) := (cellO HI.out).trans rfl
      have i3 : V2.cell? ⟨ib, 3, none⟩ = some (.string x.lib) := (cellO HI.out).trans rfl
      have i4 : V2.cell? ⟨ib, 4, none⟩ = some (.string x.own) := (cellO HI.out).trans rfl
      have i5 : V2.cell? ⟨ib, 5, none⟩ = some (.int .i64 x.quote.kind) := (cellO HI.out).trans rfl
      have i6 : V2.cell? ⟨ib, 6, none⟩ = some (.int .i64 x.quote.n) := (cellO HI.out).trans rfl
      have i7 : V2.cell? ⟨ib, 7, none⟩ = some (.string x.quote.name) := (cellO HI.out).trans rfl
      have i8 : V2.cell? ⟨ib, 8, none⟩ = some (.int .i64 x.quote.stamp) := (cellO HI.out).trans rfl
      have i9 : V2.cell? ⟨ib, 9, none⟩ = some (.int .i64 x.quote.lib) := (cellO HI.out).trans rfl
      have i10 : V2.cell? ⟨ib, 10, none⟩ = some (.slice qa x.quote.kids.length qc) := (cellO HI.out).trans rfl
      have OG : Hid ((x.op = 5 ∨ x.op = 12 ∨ x.op = 13) → Calls Tryz.prog 19 #[iv x qa qc, .int .i64 0, .int .i64 0, .int .i64 (-1)] V2 fun r w' => r = .returned (.int .i64 (nameW x)) ∧ Below V2.heap.size V2 w') := fun h => Own_global x qa qc V2 h l3 l4
      unfold iv ic at OG
      have HMX : Hid (MadeI x ↔ ((x.op = 5 ∨ x.op = 12 ∨ x.op = 13 → nameW x = 0) ∧ (x.op = 8 → x.a ≤ 2000))) := Iff.rfl
      by_cases hg : x.op = 5 ∨ x.op = 12 ∨ x.op = 13
      · have OG2 := hidd (OG.out hg)
        clear OG
        generalize hnw : nameW x = ny at OG2 HMX
        have HNW := hidd hnw
        clear hnw
        have h8 : (x.op == 8) = false := by simp; omega
        have HNE : Hid (¬ x.op = 8) := by unfold Hid; omega
        have hgs : ((x.op == 5) = true) ∨ ((x.op == 5) = false ∧ (x.op == 12) = true) ∨ ((x.op == 5) = false ∧ (x.op == 12) = false ∧ (x.op == 13) = true) := by
          rcases hg with e | e | e
          · left; rw [e]; rfl
          · right; left; rw [e]; exact ⟨rfl, rfl⟩
          · right; right; rw [e]; exact ⟨rfl, rfl, rfl⟩
        clear hg
        rcases hgs with s5 | ⟨s5, s12⟩ | ⟨s5, s12, s13⟩
        · go_wp2_with fail
          refine OG2.out.mono ?_
          rintro e w5 ⟨rfl, hb5⟩
          have HB5 := hidd (HBI.out.trans (hb5.mono HBI.out.size))
          have HI5 := hidd ((hb5.block _ (Array.getElem?_eq_some_iff.1 HI.out).1).trans HI.out)
          have j0 : w5.cell? ⟨ib, 0, none⟩ = some (.int .i64 x.op) := (cellO HI5.out).trans rfl
          clear hb5 OG2
          by_cases ny0 : ny = 0
          · subst ny0
            go_wp2_with fail
            go_roundw
            case rel =>
              refine ⟨k + 1, by omega, by go_num, HB5.out, fun i y hi hy => ?_⟩
              by_cases e : i = k
              · subst e
                rw [HX.out] at hy
                obtain rfl := Option.some.inj hy
                exact ⟨fun _ => HNW.out, fun h => absurd h HNE.out⟩
              · exact HK.out.2 i y (by omega) hy
            case measure => simp [intOf]; omega
          · have ny' : (ny != 0) = true := by simpa using ny0
            clear CR
            go_wp2_with fail
            go_ret
            exact ⟨rfl, HB4.out.trans (HB5.out.mono HB4.out.size)⟩
        · go_wp2_with fail
          refine OG2.out.mono ?_
          rintro e w5 ⟨rfl, hb5⟩
          have HB5 := hidd (HBI.out.trans (hb5.mono HBI.out.size))
          have HI5 := hidd ((hb5.block _ (Array.getElem?_eq_some_iff.1 HI.out).1).trans HI.out)
          have j0 : w5.cell? ⟨ib, 0, none⟩ = some (.int .i64 x.op) := (cellO HI5.out).trans rfl
          clear hb5 OG2
          by_cases ny0 : ny = 0
          · subst ny0
            go_wp2_with fail
            go_roundw
            case rel =>
              refine ⟨k + 1, by omega, by go_num, HB5.out, fun i y hi hy => ?_⟩
              by_cases e : i = k
              · subst e
                rw [HX.out] at hy
                obtain rfl := Option.some.inj hy
                exact ⟨fun _ => HNW.out, fun h => absurd h HNE.out⟩
              · exact HK.out.2 i y (by omega) hy
            case measure => simp [intOf]; omega
          · have ny' : (ny != 0) = true := by simpa using ny0
            clear CR
            go_wp2_with fail
            go_ret
            exact ⟨rfl, HB4.out.trans (HB5.out.mono HB4.out.size)⟩
        · go_wp2_with fail
          refine OG2.out.mono ?_
          rintro e w5 ⟨rfl, hb5⟩
          have HB5 := hidd (HBI.out.trans (hb5.mono HBI.out.size))
          have HI5 := hidd ((hb5.block _ (Array.getElem?_eq_some_iff.1 HI.out).1).trans HI.out)
          have j0 : w5.cell? ⟨ib, 0, none⟩ = some (.int .i64 x.op) := (cellO HI5.out).trans rfl
          clear hb5 OG2
          by_cases ny0 : ny = 0
          · subst ny0
            go_wp2_with fail
            go_roundw
            case rel =>
              refine ⟨k + 1, by omega, by go_num, HB5.out, fun i y hi hy => ?_⟩
              by_cases e : i = k
              · subst e
                rw [HX.out] at hy
                obtain rfl := Option.some.inj hy
                exact ⟨fun _ => HNW.out, fun h => absurd h HNE.out⟩
              · exact HK.out.2 i y (by omega) hy
            case measure => simp [intOf]; omega
          · have ny' : (ny != 0) = true := by simpa using ny0
            clear CR
            go_wp2_with fail
            go_ret
            exact ⟨rfl, HB4.out.trans (HB5.out.mono HB4.out.size)⟩
      · have g5 : (x.op == 5) = false := by simp; omega
        have g12 : (x.op == 12) = false := by simp; omega
        have g13 : (x.op == 13) = false := by simp; omega
        have HG := hidd hg
        clear OG hg
        by_cases h8 : x.op = 8
        · have h8' : (x.op == 8) = true := by rw [h8]; rfl
          have H8 := hidd h8
          clear h8
          by_cases hbig : 2000 < x.a
          · clear CR
            go_wp2_with fail
            go_ret
            exact ⟨rfl, HB4.out.trans (HBI.out.mono HB4.out.size)⟩
          · have hle : x.a ≤ 2000 := by omega
            have HLE := hidd hle
            have hbig' : decide (2000 < x.a) = false := by simp; omega
            go_wp2_with fail
            go_roundw
            case rel =>
              refine ⟨k + 1, by omega, by go_num, HBI.out, fun i y hi hy => ?_⟩
              by_cases e : i = k
              · subst e
                rw [HX.out] at hy
                obtain rfl := Option.some.inj hy
                exact ⟨fun h => absurd h HG.out, fun _ => HLE.out⟩
              · exact HK.out.2 i y (by omega) hy
            case measure => simp [intOf]; omega
        · have h8' : (x.op == 8) = false := by simp; omega
          have H8 := hidd h8
          clear h8
          go_wp2_with fail
          go_roundw
          case rel =>
            refine ⟨k + 1, by omega, by go_num, HBI.out, fun i y hi hy => ?_⟩
            by_cases e : i = k
            · subst e
              rw [HX.out] at hy
              obtain rfl := Option.some.inj hy
              exact ⟨fun h => absurd h HG.out, fun h => absurd h H8.out⟩
            · exact HK.out.2 i y (by omega) hy
          case measure => simp [intOf]; omega
    · obtain rfl : k = cn := by omega
      have HJ : Hid (∀ i Q, i < j + 1 → PP[i]? = some Q → ∀ x, x ∈ Q.code → MadeI x) := by
        intro i Q hi hQ x hx
        by_cases e : i = j
        · subst e
          rw [HP.out] at hQ
          obtain rfl := Option.some.inj hQ
          obtain ⟨m, hm, rfl⟩ := List.mem_iff_getElem.1 hx
          exact HK.out.2 m _ (by rw [HCN.out]; exact hm) (List.getElem?_eq_getElem hm)
        · exact HR.out.2 i Q (by omega) hQ x hx
      have HKB := hidd HK.out.1
      clear HK
      go_wp2_with fail
      go_roundw
      case rel => exact ⟨j + 1, by omega, by go_num, HKB.out, HJ.out⟩
      case measure => simp [intOf]; omega
  · obtain rfl : j = n := by omega
    have hall : ∀ P, P ∈ PP → ∀ x, x ∈ P.code → MadeI x := fun P hP x hx => by
      obtain ⟨i, hi, rfl⟩ := List.mem_iff_getElem.1 hP
      exact HR.out.2 i _ (by rw [HN.out]; exact hi) (List.getElem?_eq_getElem hi) x hx
    have HRT : Hid (plainB nm' = true → wrongU nm' PP = 0) := fun h => CR.out (by trivial) h hall
    have HU5 := hidd ((HR.out.1.block _ (Array.getElem?_eq_some_iff.1 HU4.out).1).trans HU4.out)
    have HB5 := hidd (HB4.out.trans (HR.out.1.mono HB4.out.size))
    have HPL5 := hidd ((HPL4.out.below HR.out.1).mono HR.out.1.size)
    have PLN := hidd (fun w => Plain_any nm' hnm' w)
    have t0 : wr.cell? ⟨ub, 0, none⟩ = some (.string nm') := (cellO HU5.out).trans rfl
    have t1 : wr.cell? ⟨ub, 1, none⟩ = some (.slice pa j pc) := (cellO HU5.out).trans rfl
    have hj9 : PP.length ≤ 500 := by rw [← HN.out]; exact hn5
    clear hall CR HR HU4 HB4 HPL4 HC6
    generalize hpb : plainB nm' = pb at PLN HRT
    have HPB := hidd hpb
    clear hpb
    cases pb
    · go_wp2_with fail
      refine (PLN.out _).mono ?_
      rintro e w6 ⟨rfl, hb6⟩
      have HB6 := hidd (HB5.out.trans (hb6.mono HB5.out.size))
      clear hb6
      go_wp2_with fail
      go_ret
      exact ⟨rfl, HB6.out⟩
    · go_wp2_with fail
      refine (PLN.out _).mono ?_
      rintro e w6 ⟨rfl, hb6⟩
      have HB6 := hidd (HB5.out.trans (hb6.mono HB5.out.size))
      have HU6 := hidd ((hb6.block _ (Array.getElem?_eq_some_iff.1 HU5.out).1).trans HU5.out)
      have WU := hidd (WrongU_any nm' PP pa pc w6 hnm' ((HPL5.out.below hb6).mono hb6.size) (by rw [← HN.out]; exact hpc) (by omega) (HT.out.below HB6.out))
      rw [HRT.out (by trivial), ← HN.out] at WU
      have s0 : w6.cell? ⟨ub, 0, none⟩ = some (.string nm') := (cellO HU6.out).trans rfl
      have s1 : w6.cell? ⟨ub, 1, none⟩ = some (.slice pa j pc) := (cellO HU6.out).trans rfl
      clear hb6 t0 t1
      go_wp2_with fail
      refine WU.out.mono ?_
      rintro e w7 ⟨rfl, hb7⟩
      have HB7 := hidd (HB6.out.trans (hb7.mono HB6.out.size))
      clear hb7
      go_wp2_with fail
      go_ret
      exact ⟨rfl, HB7.out⟩
end Go.Proofs.YtfmanhkeclogfaaGreatDoor
