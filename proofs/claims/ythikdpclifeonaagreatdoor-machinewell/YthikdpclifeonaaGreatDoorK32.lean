/- Chapter 11: pairs are written -/
import Derived.Test.YthikdpclifeonaaGreatDoorK31
namespace Go.Proofs.YthikdpclifeonaaGreatDoor.V
set_option linter.unusedVariables false
set_option linter.unusedSimpArgs false
open Go.RowKit
open Go.Proofs.YthikdpclifeonaaGreatDoor

theorem neq_other (t : TypeId) (x : Value) (h : t ≠ 242) (w : World) : (binOp BinOp.neq 155 (.iface t x) (.iface 242 (.agg #[]))).run Tryz.prog w = .ok (.bool true) w := by
  have e : (Op.equal 155 (.iface t x) (.iface 242 (.agg #[]))).run Tryz.prog w = .ok false w := equalIn_other 9999 t 242 x (.agg #[]) h w
  simp [binOp, e]
theorem neq_same (w : World) : (binOp BinOp.neq 155 (.iface 242 (.agg #[])) (.iface 242 (.agg #[]))).run Tryz.prog w = .ok (.bool false) w := by kernel_rfl
set_option maxRecDepth 100000 in
set_option maxHeartbeats 1600000 in
theorem pair_any (B rb : Nat) (gb : Rc) (Bw b T f : Nat) (IH : ∀ g, g ≤ f → VOK B rb gb Bw b T g) (m : Mm) (σ : St) (i k n : Nat) (txt : List UInt8) (w : World) (h : ShowAt B rb gb Bw b T m σ n txt w) (hi : m.pr[i]? = some k) (hf : 2 * (301 - n) + 2 ≤ f) (hl : txt.length + 1 ≤ 300 * n + 1000) :
    Calls Tryz.prog 161 #[.pointer (some ⟨b, 0, none⟩), .pointer (some ⟨k, 0, none⟩)] w (ToldQ B rb gb Bw b m w txt.length n (pairF f i ⟨txt, n⟩ σ)) := by
  have HB := hidd (h.byte 40 40 rfl hl)
  have HI := hidd IH
  have HH : Hid (m.pr[i]? = some k ∧ B ≤ w.heap.size) := ⟨hi, Nat.le_trans h.hB h.hw⟩
  obtain ⟨a, v, σ2, hv⟩ : ∃ a v σ2, valuesF i σ = ((a, v), σ2) := ⟨_, _, _, rfl⟩
  have HV : Hid (∀ W, Rel B rb gb m σ W → B ≤ W.heap.size → Calls Tryz.prog 143 #[.pointer (some ⟨k, 0, none⟩)] W (ToldP B rb gb m W ((a, v), σ2))) := fun W hr hs => by
    have := values_any B rb gb m σ i k W hr hs hi
    rw [hv] at this
    exact this
  have HF : Hid (2 * (301 - n) + 2 ≤ f ∧ txt.length + 1 ≤ 300 * n + 1000) := ⟨hf, hl⟩
  have HS := hidd h
  unfold pairF
  rw [hv]
  simp only
  clear h IH hi hf hl hv
  have W0 : (⟨txt, n⟩ : Wrt).put [40] = ⟨txt ++ [40], n⟩ := rfl
  rw [W0]
  cases hsh : showF f a ⟨txt ++ [40], n⟩ σ2 with
  | mk x σ3 =>
    cases x with
    | bad q =>
      simp only
      go_enter Tryz.func161, Tryz.ntmps161
      go_wp2_with fail
      refine HB.out.mono ?_
      rintro e w1 ⟨rfl, k1, s1⟩
      have S1 := hidd s1
      have K1 := hidd k1
      clear s1 k1 HB
      go_wp2_with fail
      refine (HV.out w1 S1.out.rel (Nat.le_trans S1.out.hB S1.out.hw)).mono ?_
      rintro e w2 ⟨m2, rfl, r2, n2, oa, ov, kr2⟩
      have S2 := hidd (S1.out.kr kr2 r2)
      have N2 : Hid (New m m2 w ∧ VOk m2 a ∧ VOk m2 v ∧ KS B rb gb Bw b m w w2) := ⟨⟨n2.x, fun q hq => (n2.pr q hq).imp id (fun z => Nat.le_trans K1.out.size z), fun q hq => (n2.rw q hq).imp id (fun z => Nat.le_trans K1.out.size z)⟩, oa, ov, (KS.ofKB K1.out).trans (New.refl m w) (KS.ofKR kr2)⟩
      clear r2 n2 oa ov kr2 HV
      unfold vV
      go_wp2_with fail
      refine (HI.out f (Nat.le_refl _) m2 σ2 a n (txt ++ [40]) w2 S2.out N2.out.2.1 (by have := HF.out.1; omega)).mono ?_
      rintro e w3 ⟨m3, r3, n3, ks3, hx⟩
      rw [hsh] at r3 hx
      have KK : Hid (KS B rb gb Bw b m w w3 ∧ New m m3 w) := ⟨N2.out.2.2.2.trans N2.out.1 ks3, N2.out.1.trans n3 N2.out.2.2.2.size⟩
      obtain rfl : e = .panicked (endP q) := hx
      go_wp2_with fail
      exact ⟨rfl, m3, r3, KK.out.2, KK.out.1, rfl⟩
    | ok x =>
      simp only
      obtain ⟨R, hR⟩ : ∃ R, R = tailF f v x σ3 := ⟨_, rfl⟩
      rw [← hR]
      go_enter Tryz.func161, Tryz.ntmps161
      go_wp2_with fail
      refine HB.out.mono ?_
      rintro e w1 ⟨rfl, k1, s1⟩
      have S1 := hidd s1
      have K1 := hidd k1
      clear s1 k1 HB
      go_wp2_with fail
      refine (HV.out w1 S1.out.rel (Nat.le_trans S1.out.hB S1.out.hw)).mono ?_
      rintro e w2 ⟨m2, rfl, r2, n2, oa, ov, kr2⟩
      have S2 := hidd (S1.out.kr kr2 r2)
      have N2 : Hid (New m m2 w ∧ VOk m2 a ∧ VOk m2 v ∧ KS B rb gb Bw b m w w2) := ⟨⟨n2.x, fun q hq => (n2.pr q hq).imp id (fun z => Nat.le_trans K1.out.size z), fun q hq => (n2.rw q hq).imp id (fun z => Nat.le_trans K1.out.size z)⟩, oa, ov, (KS.ofKB K1.out).trans (New.refl m w) (KS.ofKR kr2)⟩
      clear r2 n2 oa ov kr2 HV
      unfold vV
      go_wp2_with fail
      refine (HI.out f (Nat.le_refl _) m2 σ2 a n (txt ++ [40]) w2 S2.out N2.out.2.1 (by have := HF.out.1; omega)).mono ?_
      rintro e w3 ⟨m3, r3, n3, ks3, hx⟩
      rw [hsh] at r3 hx
      have KK : Hid (KS B rb gb Bw b m w w3 ∧ New m m3 w) := ⟨N2.out.2.2.2.trans N2.out.1 ks3, N2.out.1.trans n3 N2.out.2.2.2.size⟩
      obtain ⟨he, hw3, hn1, hn3, hl3⟩ : e = .returned (.tuple #[]) ∧ Wr Bw b (x.nodes : Int) x.txt w3 ∧ n + 1 ≤ x.nodes ∧ x.nodes ≤ 300 ∧ x.txt.length + 100 ≤ (txt ++ [40]).length + 300 * (x.nodes - n) := hx
      subst he
      simp only [List.length_append, List.length_cons, List.length_nil] at hl3
      have S3 := hidd (S2.out.next ks3 r3 hw3 hn3 (by have := HF.out.2; omega))
      have hvx := vX_up N2.out.2.2.1 n3.x
      rw [← hvx]
      have L0 : Hid (LT B rb gb Bw b T f n txt.length m w R f m3 σ3 v x.nodes x.txt w3) := ⟨S3.out, N2.out.2.2.1.up n3.x, KK.out.2, KK.out.1, Nat.le_refl _, by have := HF.out.1; omega, hR.symm, hn1, by omega⟩
      have ha := assertV m3 v
      clear r3 n3 ks3 hw3 hn1 hn3 hl3 hvx N2 S2 S1 K1 hR hsh
      go_wp2_with fail
      go_loopw [4, 5, 6, 7] (fun _ s5 s6 s7 wr => ∃ (g : Nat) (m' : Mm) (σ' : St) (v' : Val) (n' : Nat) (txt' : List UInt8), s5 = .iface (vT v') (vX m' v') ∧ s6 = nxV m' v' ∧ s7 = .bool (isP v') ∧ Hid (LT B rb gb Bw b T f n txt.length m w R g m' σ' v' n' txt' wr)) (fun _ _ _ _ wr => 301 - (intOf ((wr.cell? ⟨b, 2, none⟩).getD .nilIface)).toNat)
      case atStart => exact ⟨f, m3, σ3, v, x.nodes, x.txt, rfl, rfl, rfl, L0.out⟩
      case round =>
        clear L0 ha
        obtain ⟨g, m', σ', v', n', txt', rfl, rfl, rfl, L⟩ := hrel
        cases hp : isP v' with
        | true =>
          obtain ⟨i', rfl⟩ : ∃ i', v' = .pair i' := by cases v' <;> first | exact ⟨_, rfl⟩ | cases hp
          obtain ⟨g', rfl⟩ : ∃ g', g = g' + 1 := ⟨g - 1, by have := L.out.fu; omega⟩
          obtain ⟨a', c', σ4, hv'⟩ : ∃ a' c' σ4, valuesF i' σ' = ((a', c'), σ4) := ⟨_, _, _, rfl⟩
          have hlt' : i' < m'.pr.length := L.out.ok
          have hk' : m'.pr[i']? = some (m'.pr.getD i' 0) := by simp [List.getD, List.getElem?_eq_getElem hlt']
          have HE := L.out.eq
          simp only [tailF, hv'] at HE
          have W1 : (⟨txt', n'⟩ : Wrt).put [32] = ⟨txt' ++ [32], n'⟩ := rfl
          rw [W1] at HE
          have HB' := hidd (L.out.at_.byte 32 32 rfl (by have := L.out.ln; have := HF.out.2; have := L.out.nn; omega))
          have HV' : Hid (∀ W, Rel B rb gb m' σ' W → B ≤ W.heap.size → Calls Tryz.prog 143 #[.pointer (some ⟨m'.pr.getD i' 0, 0, none⟩)] W (ToldP B rb gb m' W ((a', c'), σ4))) := fun W hr hs => by
            have := values_any B rb gb m' σ' i' _ W hr hs hk'
            rw [hv'] at this
            exact this
          have hnx : nxV m' (.pair i') = .pointer (some ⟨m'.pr.getD i' 0, 0, none⟩) := rfl
          rw [hnx]
          clear hnx hk' hlt' hv' hp
          generalize m'.pr.getD i' 0 = kk at *
          cases hsh' : showF g' a' ⟨txt' ++ [32], n'⟩ σ4 with
          | mk x' σ5 =>
            rw [hsh'] at HE
            cases x' with
            | bad q =>
              obtain rfl : ((.bad q, σ5) : Res Wrt × St) = R := HE
              go_wp2_with fail
              refine HB'.out.mono ?_
              rintro e u1 ⟨rfl, k1, s1⟩
              have S1 := hidd s1
              have K1 := hidd k1
              clear s1 k1 HB'
              go_wp2_with fail
              refine (HV'.out u1 S1.out.rel (Nat.le_trans S1.out.hB S1.out.hw)).mono ?_
              rintro e u2 ⟨m4, rfl, r4, n4, oa, ov, kr4⟩
              have S4 := hidd (S1.out.kr kr4 r4)
              have N4 : Hid (New m' m4 wr ∧ VOk m4 a' ∧ VOk m4 c' ∧ KS B rb gb Bw b m' wr u2) := ⟨⟨n4.x, fun q hq => (n4.pr q hq).imp id (fun z => Nat.le_trans K1.out.size z), fun q hq => (n4.rw q hq).imp id (fun z => Nat.le_trans K1.out.size z)⟩, oa, ov, (KS.ofKB K1.out).trans (New.refl m' wr) (KS.ofKR kr4)⟩
              clear r4 n4 oa ov kr4 HV'
              unfold vV
              go_wp2_with fail
              refine (HI.out g' (by have := L.out.gf; omega) m4 σ4 a' n' (txt' ++ [32]) u2 S4.out N4.out.2.1 (by have := L.out.fu; omega)).mono ?_
              rintro e u3 ⟨m5, r5, n5, ks5, hx⟩
              rw [hsh'] at r5 hx
              have KK5 : Hid (KS B rb gb Bw b m' wr u3 ∧ New m' m5 wr) := ⟨N4.out.2.2.2.trans N4.out.1 ks5, N4.out.1.trans n5 N4.out.2.2.2.size⟩
              have KK6 : Hid (KS B rb gb Bw b m w u3 ∧ New m m5 w) := ⟨L.out.ks.trans L.out.new KK5.out.1, L.out.new.trans KK5.out.2 L.out.ks.size⟩
              obtain rfl : e = .panicked (endP q) := hx
              go_wp2_with fail
              exact ⟨rfl, m5, r5, KK6.out.2, KK6.out.1, rfl⟩
            | ok x' =>
              have HE' : tailF g' c' x' σ5 = R := HE
              go_wp2_with fail
              refine HB'.out.mono ?_
              rintro e u1 ⟨rfl, k1, s1⟩
              have S1 := hidd s1
              have K1 := hidd k1
              clear s1 k1 HB'
              go_wp2_with fail
              refine (HV'.out u1 S1.out.rel (Nat.le_trans S1.out.hB S1.out.hw)).mono ?_
              rintro e u2 ⟨m4, rfl, r4, n4, oa, ov, kr4⟩
              have S4 := hidd (S1.out.kr kr4 r4)
              have N4 : Hid (New m' m4 wr ∧ VOk m4 a' ∧ VOk m4 c' ∧ KS B rb gb Bw b m' wr u2) := ⟨⟨n4.x, fun q hq => (n4.pr q hq).imp id (fun z => Nat.le_trans K1.out.size z), fun q hq => (n4.rw q hq).imp id (fun z => Nat.le_trans K1.out.size z)⟩, oa, ov, (KS.ofKB K1.out).trans (New.refl m' wr) (KS.ofKR kr4)⟩
              clear r4 n4 oa ov kr4 HV'
              unfold vV
              go_wp2_with fail
              refine (HI.out g' (by have := L.out.gf; omega) m4 σ4 a' n' (txt' ++ [32]) u2 S4.out N4.out.2.1 (by have := L.out.fu; omega)).mono ?_
              rintro e u3 ⟨m5, r5, n5, ks5, hx⟩
              rw [hsh'] at r5 hx
              have KK5 : Hid (KS B rb gb Bw b m' wr u3 ∧ New m' m5 wr) := ⟨N4.out.2.2.2.trans N4.out.1 ks5, N4.out.1.trans n5 N4.out.2.2.2.size⟩
              have KK6 : Hid (KS B rb gb Bw b m w u3 ∧ New m m5 w) := ⟨L.out.ks.trans L.out.new KK5.out.1, L.out.new.trans KK5.out.2 L.out.ks.size⟩
              obtain ⟨he, hw5, hn1, hn3, hl3⟩ : e = .returned (.tuple #[]) ∧ Wr Bw b (x'.nodes : Int) x'.txt u3 ∧ n' + 1 ≤ x'.nodes ∧ x'.nodes ≤ 300 ∧ x'.txt.length + 100 ≤ (txt' ++ [32]).length + 300 * (x'.nodes - n') := hx
              subst he
              simp only [List.length_append, List.length_cons, List.length_nil] at hl3
              have S5 := hidd (S4.out.next ks5 r5 hw5 hn3 (by have := L.out.ln; have := HF.out.2; have := L.out.nn; omega))
              have hvx := vX_up N4.out.2.2.1 n5.x
              rw [← hvx]
              have L5 : Hid (LT B rb gb Bw b T f n txt.length m w R g' m5 σ5 c' x'.nodes x'.txt u3) := ⟨S5.out, N4.out.2.2.1.up n5.x, KK6.out.2, KK6.out.1, by have := L.out.gf; omega, by have := L.out.fu; omega, HE', by have := L.out.nn; omega, by have := L.out.ln; have := L.out.nn; omega⟩
              have ha := assertV m5 c'
              have HM : Hid (wr.cell? ⟨b, 2, none⟩ = some (.int .i64 n') ∧ u3.cell? ⟨b, 2, none⟩ = some (.int .i64 x'.nodes) ∧ n' + 1 ≤ x'.nodes ∧ x'.nodes ≤ 300) := ⟨L.out.node, hw5.parts.2.1, hn1, hn3⟩
              clear r5 n5 ks5 hw5 hn1 hn3 hl3 hvx N4 S4 S1 K1 HE' HE hsh'
              go_wp2_with fail
              go_roundw
              case rel => exact ⟨g', m5, σ5, c', x'.nodes, x'.txt, rfl, rfl, rfl, L5.out⟩
              case measure =>
                rw [HM.out.1, HM.out.2.1]
                have := HM.out.2.2
                simp [intOf]
                omega
        | false =>
          obtain ⟨g', rfl⟩ : ∃ g', g = g' + 1 := ⟨g - 1, by have := L.out.fu; omega⟩
          by_cases hnil : v' = .nil
          · subst hnil
            have HE := L.out.eq
            simp only [tailF] at HE
            have hnq : ∀ w, (binOp BinOp.neq 155 (.iface (vT .nil) (vX m' .nil)) (.iface 242 (.agg #[]))).run Tryz.prog w = .ok (.bool false) w := neq_same
            have NF : Hid (KS B rb gb Bw b m w wr ∧ New m m' w) := ⟨L.out.ks, L.out.new⟩
            have HBF := hidd (L.out.at_.byte 41 41 rfl (by have := L.out.ln; have := HF.out.2; have := L.out.nn; omega))
            have BF : Hid (n + 1 ≤ n' ∧ n' ≤ 300 ∧ (txt' ++ [41]).length + 98 ≤ txt.length + 300 * (n' - n)) := ⟨L.out.nn, L.out.at_.hn, by have := L.out.ln; simp; omega⟩
            obtain rfl : ((.ok ⟨txt' ++ [41], n'⟩, σ') : Res Wrt × St) = R := HE
            clear hp
            go_wp2_with fail
            refine HBF.out.mono ?_
            rintro e u9 ⟨rfl, k9, s9⟩
            have HG : Hid (ToldQ B rb gb Bw b m w txt.length n ((.ok ⟨txt' ++ [41], n'⟩, σ') : Res Wrt × St) (.returned (.tuple #[])) u9) := ⟨m', s9.rel, NF.out.2, NF.out.1.trans NF.out.2 (KS.ofKB k9), rfl, s9.wr, BF.out.1, BF.out.2.1, BF.out.2.2⟩
            go_wp2_with fail
            go_end0
            exact HG.out
          · have hne : vT v' ≠ 242 := by
              intro e
              cases v' with
              | nil => exact hnil rfl
              | num q => exact absurd e (show (162 : TypeId) ≠ 242 by decide)
              | tru q => exact absurd e (show (163 : TypeId) ≠ 242 by decide)
              | sym q => exact absurd e (show (220 : TypeId) ≠ 242 by decide)
              | pair q => exact absurd e (show (243 : TypeId) ≠ 242 by decide)
              | prim q => exact absurd e (show (168 : TypeId) ≠ 242 by decide)
              | proc q => exact absurd e (show (169 : TypeId) ≠ 242 by decide)
            have hnq : ∀ w, (binOp BinOp.neq 155 (.iface (vT v') (vX m' v')) (.iface 242 (.agg #[]))).run Tryz.prog w = .ok (.bool true) w := neq_other _ _ hne
            have HE : (match showF g' v' ⟨txt' ++ [32, 46, 32], n'⟩ σ' with | (.bad h, σ2) => ((.bad h, σ2) : Res Wrt × St) | (.ok w2, σ2) => (.ok (w2.put [41]), σ2)) = R := by
              have := L.out.eq
              cases v' with
              | pair i => cases hp
              | nil => exact absurd rfl hnil
              | num q => simp only [tailF] at this; exact this
              | tru q => simp only [tailF] at this; exact this
              | sym q => simp only [tailF] at this; exact this
              | prim q => simp only [tailF] at this; exact this
              | proc q => simp only [tailF] at this; exact this
            have HD := hidd (L.out.at_.dot (by have := L.out.ln; have := HF.out.2; have := L.out.nn; omega))
            have hok := hidd L.out.ok
            cases hsh' : showF g' v' ⟨txt' ++ [32, 46, 32], n'⟩ σ' with
            | mk x' σ5 =>
              rw [hsh'] at HE
              cases x' with
              | bad q =>
                obtain rfl : ((.bad q, σ5) : Res Wrt × St) = R := HE
                go_wp2_with fail
                refine HD.out.mono ?_
                rintro e u1 ⟨rfl, k1, s1⟩
                have S1 := hidd s1
                have K1 := hidd k1
                clear s1 k1
                go_wp2_with fail
                refine (HI.out g' (by have := L.out.gf; omega) m' σ' v' n' (txt' ++ [32, 46, 32]) u1 S1.out hok.out (by have := L.out.fu; omega)).mono ?_
                rintro e u3 ⟨m5, r5, n5, ks5, hx⟩
                rw [hsh'] at r5 hx
                have HG : Hid (ToldQ B rb gb Bw b m w txt.length n ((.bad q, σ5) : Res Wrt × St) (.panicked (endP q)) u3) := ⟨m5, r5, L.out.new.trans n5 (Nat.le_trans L.out.ks.size K1.out.size), (L.out.ks.trans L.out.new (KS.ofKB K1.out)).trans L.out.new ks5, rfl⟩
                obtain rfl : e = .panicked (endP q) := hx
                go_wp2_with fail
                exact ⟨rfl, HG.out⟩
              | ok x' =>
                obtain rfl : ((.ok (x'.put [41]), σ5) : Res Wrt × St) = R := HE
                go_wp2_with fail
                refine HD.out.mono ?_
                rintro e u1 ⟨rfl, k1, s1⟩
                have S1 := hidd s1
                have K1 := hidd k1
                clear s1 k1
                go_wp2_with fail
                refine (HI.out g' (by have := L.out.gf; omega) m' σ' v' n' (txt' ++ [32, 46, 32]) u1 S1.out hok.out (by have := L.out.fu; omega)).mono ?_
                rintro e u3 ⟨m5, r5, n5, ks5, hx⟩
                rw [hsh'] at r5 hx
                obtain ⟨he, hw5, hn1, hn3, hl3⟩ : e = .returned (.tuple #[]) ∧ Wr Bw b (x'.nodes : Int) x'.txt u3 ∧ n' + 1 ≤ x'.nodes ∧ x'.nodes ≤ 300 ∧ x'.txt.length + 100 ≤ (txt' ++ [32, 46, 32]).length + 300 * (x'.nodes - n') := hx
                subst he
                simp only [List.length_append, List.length_cons, List.length_nil] at hl3
                have S5 := hidd (S1.out.next ks5 r5 hw5 hn3 (by have := L.out.ln; have := HF.out.2; have := L.out.nn; omega))
                have HBF := hidd (S5.out.byte 41 41 rfl (by have := L.out.ln; have := HF.out.2; have := L.out.nn; omega))
                have NF : Hid (KS B rb gb Bw b m w u3 ∧ New m m5 w) := ⟨(L.out.ks.trans L.out.new (KS.ofKB K1.out)).trans L.out.new ks5, L.out.new.trans n5 (Nat.le_trans L.out.ks.size K1.out.size)⟩
                have BF : Hid (n + 1 ≤ x'.nodes ∧ x'.nodes ≤ 300 ∧ (x'.txt ++ [41]).length + 98 ≤ txt.length + 300 * (x'.nodes - n)) := ⟨by have := L.out.nn; omega, hn3, by have := L.out.ln; have := L.out.nn; simp; omega⟩
                clear r5 n5 ks5 hw5 hn1 hn3 hl3 hsh'
                go_wp2_with fail
                refine HBF.out.mono ?_
                rintro e u9 ⟨rfl, k9, s9⟩
                have HG : Hid (ToldQ B rb gb Bw b m w txt.length n ((.ok (x'.put [41]), σ5) : Res Wrt × St) (.returned (.tuple #[])) u9) := ⟨m5, s9.rel, NF.out.2, NF.out.1.trans NF.out.2 (KS.ofKB k9), rfl, s9.wr, BF.out.1, BF.out.2.1, BF.out.2.2⟩
                go_wp2_with fail
                go_end0
                exact HG.out

end Go.Proofs.YthikdpclifeonaaGreatDoor.V
