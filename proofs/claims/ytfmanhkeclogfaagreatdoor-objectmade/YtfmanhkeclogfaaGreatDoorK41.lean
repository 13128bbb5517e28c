/- Chapter 9: bytes as a unit: package object's Parse. -/
import Derived.Test.YtfmanhkeclogfaaGreatDoorK40
namespace Go.Proofs.YtfmanhkeclogfaaGreatDoor
set_option linter.unusedVariables false
set_option linter.unusedSimpArgs false
open Go.RowKit

theorem flat_at {α : Type} {f : α → List Value} {k : Nat} (hk : ∀ x, (f x).length = k) : ∀ {l : List α} {i q : Nat} {x : α}, l[i]? = some x → q < k → (l.flatMap f)[i * k + q]? = (f x)[q]?
  | y :: r, 0, q, x, h, hq => by
    simp only [List.getElem?_cons_zero, Option.some.injEq] at h
    subst h
    rw [List.flatMap_cons, Nat.zero_mul, Nat.zero_add, List.getElem?_append_left (by rw [hk]; exact hq)]
  | y :: r, i + 1, q, x, h, hq => by
    simp only [List.getElem?_cons_succ] at h
    rw [List.flatMap_cons, List.getElem?_append_right (by rw [hk, Nat.succ_mul]; omega), hk, show (i + 1) * k + q - k = i * k + q by rw [Nat.succ_mul]; omega]
    exact flat_at hk h hq
theorem IE.il {ok : Nat → Prop} {B g : Nat} {w : World} {es : List IE} {i : Nat} {e : IE} (ho : ∀ k, ok k → k < B) (hc : ∀ j u, (flatI es)[j]? = some u → w.cell? ⟨g, j, none⟩ = some u) (he : es[i]? = some e) (hk : e.Ok ok w) : IL B w g (0 + i * 11) e.i e.qa e.qc := by
  have c : ∀ q u, e.cells[q]? = some u → q < 11 → w.cell? ⟨g, 0 + i * 11 + q, none⟩ = some u := fun q u hu hq => by
    rw [Nat.zero_add]
    exact hc _ _ ((flat_at (f := IE.cells) (fun _ => rfl) he hq).trans hu)
  obtain ⟨h1, h2, h3, h4, f, h5⟩ := hk
  exact ⟨c 0 _ rfl (by omega), c 1 _ rfl (by omega), c 2 _ rfl (by omega), c 3 _ rfl (by omega), c 4 _ rfl (by omega), c 5 _ rfl (by omega), c 6 _ rfl (by omega), c 7 _ rfl (by omega), c 8 _ rfl (by omega), c 9 _ rfl (by omega), c 10 _ rfl (by omega), h1, h2, h3, h4, f, Dc.stay (fun _ _ => rfl) ho f _ _ h5⟩
theorem PE.cl {ok : Nat → Prop} {B : Nat} {w : World} {p : PE} (ho : ∀ k, ok k → k < B) (h : p.Ok ok w) : CL B w p.a p.pro.code := by
  obtain ⟨_, h2, h3⟩ := h
  rcases h2 with h2 | ⟨g, ha, hg, hc⟩
  · left; unfold PE.pro; rw [h2]; rfl
  · refine Or.inr ⟨g, 0, ha, ho g hg, fun i x hx => ?_⟩
    unfold PE.pro at hx
    rw [List.getElem?_map] at hx
    cases he : p.es[i]? with
    | none => rw [he] at hx; simp at hx
    | some e =>
      rw [he] at hx
      simp at hx
      subst hx
      exact ⟨e.qa, e.qc, IE.il ho hc he (h3 e (List.mem_of_getElem? he))⟩
/-- Procedures in a row lie in memory. -/
theorem PEs.pl {ok : Nat → Prop} {B c : Nat} {w : World} {a : Option Addr} {ps : List PE} (ho : ∀ k, ok k → k < B) (h : PEs ok w a c ps) : PL B w a (ps.map PE.pro) := by
  obtain ⟨_, h2, h3⟩ := h
  rcases h2 with h2 | ⟨g, ha, hg, hc⟩
  · left; rw [h2]; rfl
  · refine Or.inr ⟨g, 0, ha, ho g hg, fun i P hP => ?_⟩
    rw [List.getElem?_map] at hP
    cases hp : ps[i]? with
    | none => rw [hp] at hP; simp at hP
    | some p =>
      rw [hp] at hP
      simp at hP
      subst hP
      have cc : ∀ q u, p.cells[q]? = some u → q < 2 → w.cell? ⟨g, 0 + i * 2 + q, none⟩ = some u := fun q u hu hq => by
        rw [Nat.zero_add]
        exact hc _ _ ((flat_at (f := PE.cells) (fun _ => rfl) hp hq).trans hu)
      have hpk := h3 p (List.mem_of_getElem? hp)
      have hlen : p.pro.code.length = p.es.length := by unfold PE.pro; simp
      refine ⟨p.a, p.c, cc 0 _ rfl (by omega), ?_, by rw [hlen]; exact hpk.1, PE.cl ho hpk⟩
      rw [hlen]
      exact cc 1 _ rfl (by omega)
theorem PEs.stay {ok ok' : Nat → Prop} {c : Nat} {w w' : World} {a : Option Addr} {ps : List PE} (h : PEs ok w a c ps) (hw : ∀ k, ok k → w'.heap[k]? = w.heap[k]?) (ho : ∀ k, ok k → ok' k) : PEs ok' w' a c ps := by
  obtain ⟨h1, h2, h3⟩ := h
  refine ⟨h1, ?_, fun p hp => (h3 p hp).stay hw ho⟩
  rcases h2 with h2 | ⟨g, ha, hg, h2⟩
  · exact Or.inl h2
  · exact Or.inr ⟨g, ha, ho g hg, fun j u hu => (World.cell?_of_block (a := ⟨g, j, none⟩) (hw g hg)).trans (h2 j u hu)⟩
theorem protosR_count (qr : QR) : ∀ (n : Nat) (l : List UInt8) (bad : Bool) (x : List Pro × List UInt8 × Bool), protosR qr n l bad = some x → x.1.length ≤ n
  | 0, l, bad, x, h => by rw [protosR] at h; obtain rfl := Option.some.inj h; exact Nat.le_refl _
  | n + 1, l, bad, x, h => by
    rw [protosR] at h
    cases e : protoR qr l bad with
    | none => rw [e] at h; simp at h
    | some y =>
      rw [e] at h
      simp only at h
      split at h
      · obtain rfl := Option.some.inj h; simp
      · cases e2 : protosR qr n y.2.1 y.2.2 with
        | none => rw [e2] at h; simp at h
        | some z =>
          rw [e2] at h
          have h2 := protosR_count qr n _ _ _ e2
          simp at h
          subst h
          simp
          omega
/-- WHAT Parse TELLS, where what is quoted is told. -/
def parseU (qr : QR) (bs : List UInt8) : Option (Int × ByteArray × List Pro) :=
  if 60000 < bs.length then some (4, ⟨#[]⟩, [])
  else (unitR qr bs false).map fun r => if r.2.2 = true ∨ 0 < r.2.1.length then (2, ⟨#[]⟩, []) else if wrongU r.1.1 r.1.2 = 0 then (0, r.1) else (wrongU r.1.1 r.1.2, ⟨#[]⟩, [])
def ToldP (r : Int × ByteArray × List Pro) (w : World) (e : Ending) (w' : World) : Prop :=
  ∃ (ps : List PE) (a : Option Addr) (c : Nat), e = .returned (.tuple #[.agg #[.string r.2.1, .slice a ps.length c], .int .i64 r.1]) ∧ ps.map PE.pro = r.2.2 ∧ Below w.heap.size w w' ∧ PEs (fun k => k < w'.heap.size) w' a c ps
theorem ret12 {ts : Array Value} {W : World} {N : Nat} {x0 x1 y : Value} (h : W.heap[N]? = some (.cells #[x0, x1] 24 (0, 0))) (h4 : ts[2]? = some (.pointer (some ⟨N, 0, none⟩))) (h3 : ts[3]? = some y) :
    (results Tryz.f12 ts).run Tryz.prog W = .ok (.tuple #[.agg #[x0, x1], y]) W := by
  have cc : ∀ q, W.cell? ⟨N, q, none⟩ = #[x0, x1][q]? := fun q => by simp [World.cell?, h]
  have q0 := cc 0
  have q1 := cc 1
  simp at q0 q1
  simp [results, Tryz.results12, go_sem, h4, h3, q0, q1]
theorem ToldP.no {y : Int} {w w' : World} (h : Below w.heap.size w w') : ToldP (y, ⟨#[]⟩, []) w (.returned (.tuple #[.agg #[.string ⟨#[]⟩, .slice none 0 0], .int .i64 y])) w' := ⟨[], none, 0, rfl, rfl, h, Nat.le_refl _, Or.inl rfl, by simp⟩
/-- Bytes that are handed over. -/
def ByA (w : World) (a : Option Addr) (cap : Nat) (l : List UInt8) : Prop := (a = none ∧ cap = 0 ∧ l = []) ∨ ∃ g o, a = some ⟨g, o, none⟩ ∧ g < w.heap.size ∧ ∀ (i : Nat) (c : UInt8), l[i]? = some c → w.cell? ⟨g, o + i, none⟩ = some (.int .u8 ((c.toNat : Nat) : Int))

set_option maxRecDepth 100000 in
set_option maxHeartbeats 6400000 in
theorem Parse_any (qr : QR) (hq : Qok qr) (hqr : ∀ l bad d l' bad', qr l bad = some (d, l', bad') → l'.length ≤ l.length) (bs : List UInt8) (a : Option Addr) (cap : Nat) (w : World) (hb : ByA w a cap bs) (hlc : bs.length ≤ cap) (hcm : cap ≤ maxLen) (htab : TabS w) (r : Int × ByteArray × List Pro) (hr : parseU qr bs = some r) : Calls Tryz.prog 12 #[.slice a bs.length cap] w (ToldP r w) := by
  unfold parseU at hr
  obtain ⟨n, hn⟩ : ∃ n, n = bs.length := ⟨_, rfl⟩
  have HN := hidd hn
  have hcap : cap ≤ 9223372036854775807 := by unfold maxLen at hcm; omega
  have hba := (Below.refl w.heap.size w).alloc (Nat.le_refl _) (.cells #[.string ⟨#[]⟩, .slice none 0 0] 24)
  have HZ := hidd (World.alloc_heap_new w (.cells #[.string ⟨#[]⟩, .slice none 0 0] 24))
  have HBA := hidd hba
  by_cases hbig : 60000 < bs.length
  · rw [if_pos hbig] at hr
    obtain rfl := Option.some.inj hr
    rw [← hn] at hbig ⊢
    have d0 : (w.alloc (.cells #[.string ⟨#[]⟩, .slice none 0 0] 24)).cell? ⟨w.heap.size, 0, none⟩ = some (.string ⟨#[]⟩) := (cellO HZ.out).trans rfl
    have d1 : (w.alloc (.cells #[.string ⟨#[]⟩, .slice none 0 0] 24)).cell? ⟨w.heap.size, 1, none⟩ = some (.slice none 0 0) := (cellO HZ.out).trans rfl
    have k1 := ((Keep.refl w.heap.size (w.alloc (.cells #[.string ⟨#[]⟩, .slice none 0 0] 24))).setCell ⟨w.heap.size, 0, none⟩ rfl (.string ⟨#[]⟩)).setCell ⟨w.heap.size, 1, none⟩ rfl (.slice none 0 0)
    clear hb hr htab hba
    go_enter Tryz.func12, Tryz.ntmps12
    go_wp2_with fail
    first
      | exact bodyPost_ret (ret12 (two_at1 (two_at0 HZ.out _) _) rfl rfl) rfl (ToldP.no (HBA.out.trans (k1.toBelow (Nat.le_refl _) (by simp))))
      | exact bodyPost_ret (ret12 HZ.out rfl rfl) rfl (ToldP.no HBA.out)
  rw [if_neg hbig] at hr
  have hn6 : bs.length ≤ 60000 := by omega
  obtain ⟨⟨⟨nm, PP⟩, l3, b3⟩, hu, hre⟩ : ∃ c, unitR qr bs false = some c ∧ (if c.2.2 = true ∨ 0 < c.2.1.length then (2, ⟨#[]⟩, []) else if wrongU c.1.1 c.1.2 = 0 then (0, c.1) else (wrongU c.1.1 c.1.2, ⟨#[]⟩, [])) = r := by
    cases e : unitR qr bs false with
    | none => rw [e] at hr; simp at hr
    | some c => rw [e] at hr; exact ⟨c, rfl, by simpa using hr⟩
  simp only at hre
  have hnm : nm.size ≤ maxLen ∧ PP.length ≤ 60000 := by
    have h1 := textR_len bs false (by unfold maxLen; omega)
    have h2 := textR_left bs false
    have h3 := countR_len (textR bs false).2.1 (textR bs false).2.2
    obtain ⟨m, hm1, hm2⟩ := countR_nat (textR bs false).2.1 (textR bs false).2.2
    unfold unitR at hu
    cases e : protosR qr (countR (textR bs false).2.1 (textR bs false).2.2).1.toNat (countR (textR bs false).2.1 (textR bs false).2.2).2.1 (countR (textR bs false).2.1 (textR bs false).2.2).2.2 with
    | none => rw [e] at hu; simp at hu
    | some c =>
      have h4 := protosR_count qr _ _ _ _ e
      rw [e] at hu
      simp at hu
      rw [← hu.1.1, ← hu.1.2]
      exact ⟨h1, by omega⟩
  have HNMS := hidd hnm
  have b2 : Below w.heap.size w ((w.alloc (.cells #[.string ⟨#[]⟩, .slice none 0 0] 24)).alloc (.cells #[.slice a bs.length cap, .bool false] 73)) := hba.alloc (by simp) _
  have RD0 : Hid (RD ((w.alloc (.cells #[.string ⟨#[]⟩, .slice none 0 0] 24)).alloc (.cells #[.slice a bs.length cap, .bool false] 73)).heap.size (w.heap.size + 1) bs false ((w.alloc (.cells #[.string ⟨#[]⟩, .slice none 0 0] 24)).alloc (.cells #[.slice a bs.length cap, .bool false] 73))) := by
    refine ⟨by simp, Nat.le_refl _, a, cap, ?_, hlc, hcm, ?_⟩
    · have := World.alloc_heap_new (w.alloc (.cells #[.string ⟨#[]⟩, .slice none 0 0] 24)) (.cells #[.slice a bs.length cap, .bool false] 73)
      simpa using this
    · rcases hb with h | ⟨g, o, ha, hg, h⟩
      · exact Or.inl h
      · exact Or.inr ⟨g, o, ha, by omega, by simp; omega, fun i c hc => (b2.cell (p := ⟨g, o + i, none⟩) hg).trans (h i c hc)⟩
  have UN := hidd (runit_any qr hq hqr _ _ bs false _ RD0.out hn6 _ hu)
  have HB2 := hidd b2
  have HZ2 := hidd ((Below.heap_alloc (w.alloc (.cells #[.string ⟨#[]⟩, .slice none 0 0] 24)) (.cells #[.slice a bs.length cap, .bool false] 73) w.heap.size (by simp)).trans HZ.out)
  have HTB := hidd htab
  have HRE := hidd hre
  rw [← hn] at hbig ⊢
  rw [← hn] at UN HB2 HZ2
  clear hb hr htab hba b2 RD0 HZ HBA hq hqr hu hre hnm hn6 hn hlc hcm
  go_enter Tryz.func12, Tryz.ntmps12
  go_upto_region 4 with fail
  generalize (w.alloc (.cells #[.string ⟨#[]⟩, .slice none 0 0] 24)).alloc (.cells #[.slice a n cap, .bool false] 73) = V at UN HB2 HZ2 ⊢
  go_wp2_with fail
  refine UN.out.mono ?_
  rintro e w1 ⟨ps, a1, c1, rfl, hps, hrd, hk, hpe⟩
  simp only at hps hrd
  have hV1 : w.heap.size + 1 < V.heap.size := hrd.1
  have hks := hk.size
  have hba1 : Below w.heap.size w w1 := HB2.out.trans (hk.toBelow (by omega) (by omega))
  have hz1 := (hk.block _ (by omega) (by simp)).trans HZ2.out
  have bU : Below w1.heap.size w1 (w1.alloc (.cells #[.string nm, .slice a1 ps.length c1] 24)) := (Below.refl _ _).alloc (Nat.le_refl _) _
  have HB3 := hidd (hba1.trans (bU.mono hba1.size))
  have HZ3 := hidd ((bU.block _ (by omega)).trans hz1)
  have HRD := hidd (hrd.below (bU.mono (by omega)))
  have HU3 := hidd (World.alloc_heap_new w1 (.cells #[.string nm, .slice a1 ps.length c1] 24))
  have HPE : Hid (PEs (fun k => k < (w1.alloc (.cells #[.string nm, .slice a1 ps.length c1] 24)).heap.size ∧ w.heap.size < k ∧ k ≠ w1.heap.size) (w1.alloc (.cells #[.string nm, .slice a1 ps.length c1] 24)) a1 c1 ps) := hpe.stay (fun k hk => bU.block k hk.2) (fun k hk => ⟨by simp; omega, by omega, by omega⟩)
  have HPS := hidd hps
  have HLEN : Hid (ps.length = PP.length) := by unfold Hid; rw [← hps, List.length_map]
  have hps6 : ps.length ≤ c1 := hpe.1
  have HSZ : Hid (w.heap.size < w1.heap.size) := by unfold Hid; omega
  clear hrd hk hba1 hz1 bU hpe hps UN HB2 HZ2 hV1 hks
  go_upto_region 5 with fail
  generalize w1.alloc (.cells #[.string nm, .slice a1 ps.length c1] 24) = V3 at HB3 HZ3 HRD HU3 HPE ⊢
  obtain ⟨ub, hub⟩ : ∃ u, u = w1.heap.size := ⟨_, rfl⟩
  rw [← hub] at HU3 HPE HSZ ⊢
  clear hub
  obtain ⟨_, _, la, lc, g1, g2, g3, g4⟩ := id HRD.out
  have r0 : V3.cell? ⟨w.heap.size + 1, 0, none⟩ = some (.slice la l3.length lc) := (cellO g1).trans rfl
  have r1 : V3.cell? ⟨w.heap.size + 1, 1, none⟩ = some (.bool b3) := (cellO g1).trans rfl
  have d0 : V3.cell? ⟨w.heap.size, 0, none⟩ = some (.string ⟨#[]⟩) := (cellO HZ3.out).trans rfl
  have d1 : V3.cell? ⟨w.heap.size, 1, none⟩ = some (.slice none 0 0) := (cellO HZ3.out).trans rfl
  have z0 := looseO (q := 0) HZ3.out
  have z1 := looseO (q := 1) HZ3.out
  have u0 : V3.cell? ⟨ub, 0, none⟩ = some (.string nm) := (cellO HU3.out).trans rfl
  have u1 : V3.cell? ⟨ub, 1, none⟩ = some (.slice a1 ps.length c1) := (cellO HU3.out).trans rfl
  have NO : Hid (∀ y W, W.heap[w.heap.size]? = some (.cells #[.string ⟨#[]⟩, .slice none 0 0] 24 (0, 0)) → Below w.heap.size w W → ((W.setCell ⟨w.heap.size, 0, none⟩ (.string ⟨#[]⟩)).setCell ⟨w.heap.size, 1, none⟩ (.slice none 0 0)).heap[w.heap.size]? = some (.cells #[.string ⟨#[]⟩, .slice none 0 0] 24 (0, 0)) ∧ ToldP (y, ⟨#[]⟩, []) w (.returned (.tuple #[.agg #[.string ⟨#[]⟩, .slice none 0 0], .int .i64 y])) ((W.setCell ⟨w.heap.size, 0, none⟩ (.string ⟨#[]⟩)).setCell ⟨w.heap.size, 1, none⟩ (.slice none 0 0))) := fun y W h1 h2 => ⟨two_at1 (two_at0 h1 _) _, ToldP.no ((h2.setCell (p := ⟨w.heap.size, 0, none⟩) (Nat.le_refl _) _).setCell (p := ⟨w.heap.size, 1, none⟩) (Nat.le_refl _) _)⟩
  clear g1 g2 g3 g4
  obtain ⟨ln, hln⟩ : ∃ n, n = l3.length := ⟨_, rfl⟩
  rw [← hln] at r0 HRE
  clear hln
  cases b3
  case true =>
    have hre := HRE.out
    rw [if_pos (Or.inl rfl)] at hre
    subst hre
    have HN2 := hidd (NO.out 2 V3 HZ3.out HB3.out)
    clear HRE NO
    go_wp2_with fail
    exact bodyPost_ret (ret12 HN2.out.1 rfl rfl) rfl HN2.out.2
  by_cases hl0 : 0 < ln
  · have hre := HRE.out
    rw [if_pos (Or.inr hl0)] at hre
    subst hre
    have HN2 := hidd (NO.out 2 V3 HZ3.out HB3.out)
    clear HRE NO
    go_wp2_with fail
    exact bodyPost_ret (ret12 HN2.out.1 rfl rfl) rfl HN2.out.2
  obtain rfl : ln = 0 := by omega
  have hre := HRE.out
  rw [if_neg (by simp)] at hre
  have HRE2 := hidd hre
  clear hre HRE
  have WU := hidd (WrongU_any nm PP a1 c1 V3 HNMS.out.1 (by have := PEs.pl (B := V3.heap.size) (fun k hk => hk.1) HPE.out; rwa [HPS.out] at this) (by have := HLEN.out; omega) (by have := HNMS.out.2; omega) (HTB.out.below HB3.out))
  rw [← HLEN.out] at WU
  generalize wrongU nm PP = y at WU HRE2
  go_wp2_with fail
  refine WU.out.mono ?_
  rintro e w4 ⟨rfl, hb4⟩
  have HB4 := hidd (HB3.out.trans (hb4.mono HB3.out.size))
  have HZ4 := hidd ((hb4.block _ (Array.getElem?_eq_some_iff.1 HZ3.out).1).trans HZ3.out)
  have HU4 := hidd ((hb4.block _ (Array.getElem?_eq_some_iff.1 HU3.out).1).trans HU3.out)
  have HPE4 : Hid (PEs (fun k => k < w4.heap.size ∧ w.heap.size < k) w4 a1 c1 ps) := HPE.out.stay (fun k hk => hb4.block k hk.1) (fun k hk => ⟨Nat.lt_of_lt_of_le hk.1 hb4.size, hk.2.1⟩)
  clear hb4 WU r0 r1 d0 d1 z0 z1 u0 u1 HZ3 HB3 HU3 HPE HRD
  have d0 : w4.cell? ⟨w.heap.size, 0, none⟩ = some (.string ⟨#[]⟩) := (cellO HZ4.out).trans rfl
  have d1 : w4.cell? ⟨w.heap.size, 1, none⟩ = some (.slice none 0 0) := (cellO HZ4.out).trans rfl
  have z0 := looseO (q := 0) HZ4.out
  have z1 := looseO (q := 1) HZ4.out
  have u0 : w4.cell? ⟨ub, 0, none⟩ = some (.string nm) := (cellO HU4.out).trans rfl
  have u1 : w4.cell? ⟨ub, 1, none⟩ = some (.slice a1 ps.length c1) := (cellO HU4.out).trans rfl
  by_cases y0 : y = 0
  case neg =>
    have y0' : (y != 0) = true := by simpa using y0
    have hre := HRE2.out
    rw [if_neg y0] at hre
    subst hre
    have HN2 := hidd (NO.out y w4 HZ4.out HB4.out)
    clear HRE2 NO
    go_wp2_with fail
    exact bodyPost_ret (ret12 HN2.out.1 rfl rfl) rfl HN2.out.2
  subst y0
  have hre := HRE2.out
  rw [if_pos (by trivial)] at hre
  subst hre
  have k1 := ((Keep.refl w.heap.size w4).setCell ⟨w.heap.size, 0, none⟩ rfl (.string nm)).setCell ⟨w.heap.size, 1, none⟩ rfl (.slice a1 ps.length c1)
  have HFI := hidd (two_at1 (two_at0 HZ4.out (.string nm)) (.slice a1 ps.length c1))
  have HTP : Hid (ToldP (0, nm, PP) w (.returned (.tuple #[.agg #[.string nm, .slice a1 ps.length c1], .int .i64 0])) ((w4.setCell ⟨w.heap.size, 0, none⟩ (.string nm)).setCell ⟨w.heap.size, 1, none⟩ (.slice a1 ps.length c1))) :=
    ⟨ps, a1, c1, rfl, HPS.out, HB4.out.trans (k1.toBelow (Nat.le_refl _) HB4.out.size), HPE4.out.stay (fun k hk => k1.block k hk.1 (by simp; omega)) (fun k hk => Nat.lt_of_lt_of_le hk.1 k1.size)⟩
  clear HRE2 NO k1
  go_wp2_with fail
  exact bodyPost_ret (ret12 HFI.out rfl rfl) rfl HTP.out
end Go.Proofs.YtfmanhkeclogfaaGreatDoor
