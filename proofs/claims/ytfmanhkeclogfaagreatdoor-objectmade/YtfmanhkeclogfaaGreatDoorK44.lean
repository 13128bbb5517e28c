/- Chapter 9's laws: their closed fact. -/
import Derived.Test.YtfmanhkeclogfaaGreatDoorK41
import Derived.Test.YtfmanhkeclogfaaGreatDoorK43
namespace Go.Proofs.YtfmanhkeclogfaaGreatDoor
set_option linter.unusedVariables false
set_option linter.unusedSimpArgs false
open Go.RowKit

def uName : ByteArray := ⟨#[109]⟩
def uProtos : List Pro := [⟨0, [insN 1 5, insO 14, insO 15]⟩]
theorem ret38 {ts : Array Value} {W : World} {N : Nat} {x0 x1 : Value} (h : W.heap[N]? = some (.cells #[x0, x1] 24 (0, 0))) (h4 : ts[0]? = some (.pointer (some ⟨N, 0, none⟩))) :
    (results Tryz.f38 ts).run Tryz.prog W = .ok (.agg #[x0, x1]) W := by
  have cc : ∀ q, W.cell? ⟨N, q, none⟩ = #[x0, x1][q]? := fun q => by simp [World.cell?, h]
  have q0 := cc 0
  have q1 := cc 1
  simp at q0 q1
  simp [results, Tryz.results38, go_sem, h4, q0, q1]
def c33 : List Value := (ic (insN 1 5) (.slice none 0 0)).toList ++ (ic (insO 14) (.slice none 0 0)).toList ++ (ic (insO 15) (.slice none 0 0)).toList
/-- The three instructions, in a block. -/
theorem code_cl {B g : Nat} {w : World} {cs : Array Value} (hg : g < B) (h : w.heap[g]? = some (.cells cs 52 (0, 0))) (hc : cs.toList = c33) : CL B w (some ⟨g, 0, none⟩) [insN 1 5, insO 14, insO 15] := by
  refine Or.inr ⟨g, 0, rfl, hg, fun i x hx => ?_⟩
  have c : ∀ q, w.cell? ⟨g, q, none⟩ = c33[q]? := fun q => by rw [cellO h, ← hc]; simp
  have nk : ∀ (x : In), x.quote = emD → ∃ f, Dc (fun k => k < B) w f none x.quote.kids := fun x hx => ⟨0, by rw [hx]; exact Dc.nil _ _ _ _⟩
  match i, hx with
  | 0, hx =>
    simp at hx
    subst hx
    exact ⟨none, 0, (c _).trans rfl, (c _).trans rfl, (c _).trans rfl, (c _).trans rfl, (c _).trans rfl, (c _).trans rfl, (c _).trans rfl, (c _).trans rfl, (c _).trans rfl, (c _).trans rfl, (c _).trans rfl, Nat.zero_le _, Nat.zero_le _, Nat.zero_le _, Nat.le_refl _, nk _ rfl⟩
  | 1, hx =>
    simp at hx
    subst hx
    exact ⟨none, 0, (c _).trans rfl, (c _).trans rfl, (c _).trans rfl, (c _).trans rfl, (c _).trans rfl, (c _).trans rfl, (c _).trans rfl, (c _).trans rfl, (c _).trans rfl, (c _).trans rfl, (c _).trans rfl, Nat.zero_le _, Nat.zero_le _, Nat.zero_le _, Nat.le_refl _, nk _ rfl⟩
  | 2, hx =>
    simp at hx
    subst hx
    exact ⟨none, 0, (c _).trans rfl, (c _).trans rfl, (c _).trans rfl, (c _).trans rfl, (c _).trans rfl, (c _).trans rfl, (c _).trans rfl, (c _).trans rfl, (c _).trans rfl, (c _).trans rfl, (c _).trans rfl, Nat.zero_le _, Nat.zero_le _, Nat.zero_le _, Nat.le_refl _, nk _ rfl⟩
  | i + 3, hx => simp at hx
theorem unit_pl {B g p : Nat} {w : World} {cs : Array Value} (hg : g < B) (hp : p < B) (h : w.heap[g]? = some (.cells cs 52 (0, 0))) (hc : cs.toList = c33) (h2 : w.heap[p]? = some (.cells #[.int .i64 0, .slice (some ⟨g, 0, none⟩) 3 3] 47 (0, 0))) : PL B w (some ⟨p, 0, none⟩) uProtos := by
  refine Or.inr ⟨p, 0, rfl, hp, fun i P hP => ?_⟩
  match i, hP with
  | 0, hP =>
    simp [uProtos] at hP
    subst hP
    exact ⟨some ⟨g, 0, none⟩, 3, (cellO h2).trans rfl, (cellO h2).trans rfl, Nat.le_refl _, code_cl hg h hc⟩
  | i + 1, hP => simp [uProtos] at hP
theorem unit_end (w : World) (cs : Array Value) (hc : cs.toList = c33) : (((w.alloc (.cells #[.string ⟨#[109]⟩, .slice (some ⟨w.heap.size + 1 + 1, 0, none⟩) 1 1] 24)).alloc (.cells cs 52)).alloc (.cells #[.int .i64 0, .slice (some ⟨w.heap.size + 1, 0, none⟩) 3 3] 47)).heap[w.heap.size]? = some (.cells #[.string ⟨#[109]⟩, .slice (some ⟨w.heap.size + 1 + 1, 0, none⟩) 1 1] 24 (0, 0)) ∧
    PL (((w.alloc (.cells #[.string ⟨#[109]⟩, .slice (some ⟨w.heap.size + 1 + 1, 0, none⟩) 1 1] 24)).alloc (.cells cs 52)).alloc (.cells #[.int .i64 0, .slice (some ⟨w.heap.size + 1, 0, none⟩) 3 3] 47)).heap.size (((w.alloc (.cells #[.string ⟨#[109]⟩, .slice (some ⟨w.heap.size + 1 + 1, 0, none⟩) 1 1] 24)).alloc (.cells cs 52)).alloc (.cells #[.int .i64 0, .slice (some ⟨w.heap.size + 1, 0, none⟩) 3 3] 47)) (some ⟨w.heap.size + 1 + 1, 0, none⟩) uProtos ∧
    Below w.heap.size w (((w.alloc (.cells #[.string ⟨#[109]⟩, .slice (some ⟨w.heap.size + 1 + 1, 0, none⟩) 1 1] 24)).alloc (.cells cs 52)).alloc (.cells #[.int .i64 0, .slice (some ⟨w.heap.size + 1, 0, none⟩) 3 3] 47)) := by
  generalize hA : (Obj.cells #[Value.string ⟨#[109]⟩, .slice (some ⟨w.heap.size + 1 + 1, 0, none⟩) 1 1] 24) = A
  have h1 := World.alloc_heap_new w A
  have h2 := World.alloc_heap_new (w.alloc A) (.cells cs 52)
  have h3 := World.alloc_heap_new ((w.alloc A).alloc (.cells cs 52)) (.cells #[.int .i64 0, .slice (some ⟨w.heap.size + 1, 0, none⟩) 3 3] 47)
  refine ⟨?_, ?_, (((Below.refl _ _).alloc (Nat.le_refl _) _).alloc (by simp) _).alloc (by simp; omega) _⟩
  · rw [Below.heap_alloc _ _ _ (by simp; omega), Below.heap_alloc _ _ _ (by simp), h1, ← hA]
  · refine unit_pl (g := w.heap.size + 1) (cs := cs) (by simp) (by simp) ?_ hc ?_
    · rw [Below.heap_alloc _ _ _ (by simp)]
      simpa using h2
    · simpa using h3
set_option maxRecDepth 100000 in
set_option maxHeartbeats 3200000 in
theorem unit38_any (w : World) : Calls Tryz.prog 38 #[] w fun e w' => (∃ a, e = .returned (.agg #[.string uName, .slice a 1 1]) ∧ PL w'.heap.size w' a uProtos) ∧ Below w.heap.size w w' := by
  go_enter Tryz.func38, Tryz.ntmps38
  go_wp2_with fail
  exact bodyPost_ret (ret38 (unit_end w _ rfl).1 rfl) rfl ⟨⟨_, rfl, (unit_end w _ rfl).2.1⟩, (unit_end w _ rfl).2.2⟩
set_option maxRecDepth 100000 in
set_option maxHeartbeats 1600000 in
theorem SameUnit_any (nm : ByteArray) (ps : List Pro) (pa qa : Option Addr) (pc qc : Nat) (w : World) (hp : PL w.heap.size w pa ps) (hq : PL w.heap.size w qa ps) (hn : ps.length ≤ 1000000000) (hm : ∀ p ∈ ps, p.code.length ≤ 1000000000) (hpc : ps.length ≤ pc) (hqc : ps.length ≤ qc) :
    Calls Tryz.prog 14 #[.agg #[.string nm, .slice pa ps.length pc], .agg #[.string nm, .slice qa ps.length qc]] w (Yes w) := by
  have b1 := (Below.refl w.heap.size w).alloc (Nat.le_refl _) (.cells #[.string nm, .slice pa ps.length pc] 24)
  have b2 := b1.alloc (by simp) (.cells #[.string nm, .slice qa ps.length qc] 24)
  have SP := hidd (SameP_any pa qa pc qc ps _ ((hp.below b2).mono (by simp; omega)) ((hq.below b2).mono (by simp; omega)) hn hm hpc hqc)
  have HB := hidd b2
  have hs : (nm.toList == nm.toList) = true := by simp
  clear hp hq b1 b2 hm
  generalize ps.length = n at *
  go_enter Tryz.func14, Tryz.ntmps14
  go_wp2_with fail
  refine SP.out.mono ?_
  rintro e w1 ⟨rfl, hb1⟩
  have HB1 := hidd (HB.out.trans (hb1.mono HB.out.size))
  clear hb1
  go_wp2_with fail
  go_ret
  exact ⟨rfl, HB1.out⟩
def noQ : QR := fun _ _ => none
theorem noQ_ok : Qok noQ := fun _ _ _ _ _ _ _ _ _ h => by simp [noQ] at h
theorem noQ_len : ∀ (l : List UInt8) (bad : Bool) (d : Dat) (l' : List UInt8) (bad' : Bool), noQ l bad = some (d, l', bad') → l'.length ≤ l.length := fun _ _ _ _ _ h => by simp [noQ] at h
def uBytes : List UInt8 := [2, 109, 2, 0, 6, 2, 10, 28, 30]
theorem unit_right : wrongU uName uProtos = 0 := by decide
theorem unit_bytes (qt : Dat → ByteArray) : bytesU qt uName uProtos = (0, uBytes) := by
  have e : unitB qt uName uProtos = uBytes := by
    have e1 : (⟨#[109]⟩ : ByteArray).size = 1 := rfl
    simp [unitB, uProtos, protoB, insB, textB, numB, insN, insO, layW, uName, zz, vb_small, uBytes, e1]
  unfold bytesU
  rw [unit_right, if_pos rfl, e, if_pos (by decide)]
set_option maxRecDepth 100000 in
theorem unit_parse : parseU noQ uBytes = some (0, uName, uProtos) := by rfl
theorem unit_wi (qt : Dat → ByteArray) (B b : Nat) : WIok qt B b uProtos := by
  intro P hP x hx ib io qa qc l w hil hib hwr hB hl
  simp [uProtos] at hP
  subst hP
  simp at hx
  rcases hx with rfl | rfl | rfl
  · exact ins_w2 qt B b ib io l _ w hwr hB hib hl ⟨by decide, by decide, by decide, by decide, by decide⟩ (by decide) hil.c0 hil.c1 hil.c2 hil.c3 hil.c4
  · exact ins_w1 qt B b ib io l _ w hwr hB hib hl ⟨by decide, by decide, by decide, by decide, by decide⟩ (by decide) hil.c0 hil.c1 hil.c2 hil.c3 hil.c4
  · exact ins_w1 qt B b ib io l _ w hwr hB hib hl ⟨by decide, by decide, by decide, by decide, by decide⟩ (by decide) hil.c0 hil.c1 hil.c2 hil.c3 hil.c4
set_option maxRecDepth 100000 in
set_option maxHeartbeats 3200000 in
theorem alive9_any (w : World) (htab : TabS w) : Calls Tryz.prog 15 #[] w (Yes w) := by
  have HTB := hidd htab
  have BY : Hid (∀ W a, PL W.heap.size W a uProtos → TabS W → Calls Tryz.prog 9 #[.agg #[.string uName, .slice a 1 1]] W (ToldBy (0, uBytes) W)) := fun W a h1 h2 => by
    have := Bytes_any (fun _ => uName) uName uProtos a 1 W (by decide) h1 (by decide) (by decide) h2 (fun _ B b => unit_wi _ B b)
    rw [unit_bytes] at this
    exact this
  have PA : Hid (∀ W a cap, ByA W a cap uBytes → 9 ≤ cap → cap ≤ maxLen → TabS W → Calls Tryz.prog 12 #[.slice a 9 cap] W (ToldP (0, uName, uProtos) W)) := fun W a cap h1 h2 h3 h4 => Parse_any noQ noQ_ok noQ_len uBytes a cap W h1 h2 h3 h4 _ unit_parse
  clear htab
  go_enter Tryz.func15, Tryz.ntmps15
  go_wp2_with fail
  refine (unit38_any _).mono ?_
  rintro e w1 ⟨⟨ua, rfl, hua⟩, hb1⟩
  have B1 := hidd (BY.out w1 ua hua (HTB.out.below hb1))
  have HB1 := hidd hb1
  clear hua hb1
  go_wp2_with fail
  refine B1.out.mono ?_
  rintro e w2 ⟨a, cap, rfl, q1, q2, q3, q4⟩
  simp only at q1 q3 ⊢
  have HB2 := hidd (HB1.out.trans (q4.mono HB1.out.size))
  have hby : ByA w2 a cap uBytes := by
    rcases q3 with h | h
    · simp [uBytes] at h
    · exact Or.inr h
  have P1 := hidd (PA.out w2 a cap hby q1 q2 (HTB.out.below HB2.out))
  rw [show uBytes.length = 9 from rfl]
  clear q1 q2 q3 q4 hby B1 HB1 BY PA
  go_wp2_with fail
  refine P1.out.mono ?_
  rintro e w3 ⟨ps, pa, pc, rfl, hps, hb3, hpe⟩
  simp only at hps ⊢
  have hln : ps.length = 1 := by have := congrArg List.length hps; simpa [uProtos] using this
  rw [hln]
  have bU := (Below.refl w3.heap.size w3).alloc (Nat.le_refl _) (.cells #[.string uName, .slice pa 1 pc] 24)
  have HB := hidd ((HB2.out.trans (hb3.mono HB2.out.size)).trans (bU.mono (HB2.out.trans (hb3.mono HB2.out.size)).size))
  have HU := hidd (World.alloc_heap_new w3 (.cells #[.string uName, .slice pa 1 pc] 24))
  have hpl := PEs.pl (B := w3.heap.size) (fun k hk => hk) hpe
  rw [hps] at hpl
  have HPL := hidd ((hpl.below bU).mono bU.size)
  have HPC : Hid (uProtos.length ≤ pc) := by have := hpe.1; unfold Hid; rw [hln] at this; exact this
  clear hps hb3 hpe hln bU hpl P1 HB2
  go_upto_region 3 with fail
  generalize w3.alloc (.cells #[.string uName, .slice pa 1 pc] 24) = V at HB HU HPL ⊢
  obtain ⟨ub, hub⟩ : ∃ u, u = w3.heap.size := ⟨_, rfl⟩
  rw [← hub] at HU ⊢
  clear hub
  refine wp_region_held_drew (S := fun u => Below V.heap.size V u) (by kernel_rfl) (Below.drew (Below.refl _ _)) (fun hS => ?_)
  refine wpAnyH_take (i := 0) (oi := { dst := some 15, op := Op.move (Operand.tmp 2), type := 26, pos := _, after := _, guard := none }) (v := .int .i64 0) rfl (by kernel_rfl) (by kernel_rfl) (by kernel_rfl) (fun _ _ _ h => h) (Or.inl ⟨by rfl, fun u hu => by go_simp⟩) hS ?_
  simp only [Act.put, List.setIfInBounds_toArray, List.set_cons_zero, List.set_cons_succ]
  refine wpAnyH_take (i := 1) (oi := { dst := some 16, op := Op.binOp BinOp.eql 26 (Operand.tmp 15) (Operand.const (Value.int IntKind.i64 0)) 26, type := 4, pos := _, after := _, guard := none }) (v := .bool true) rfl (by kernel_rfl) (by kernel_rfl) (by kernel_rfl) (fun _ _ _ h => h) (Or.inl ⟨by rfl, fun u hu => by go_simp⟩) hS ?_
  simp only [Act.put, List.setIfInBounds_toArray, List.set_cons_zero, List.set_cons_succ]
  refine wpAnyH_take (i := 2) (oi := { dst := some 17, op := Op.move (Operand.tmp 16), type := 4, pos := _, after := _, guard := none }) (v := .bool true) rfl (by kernel_rfl) (by kernel_rfl) (by kernel_rfl) (fun _ _ _ h => h) (Or.inl ⟨by rfl, fun u hu => by go_simp⟩) hS ?_
  simp only [Act.put, List.setIfInBounds_toArray, List.set_cons_zero, List.set_cons_succ]
  refine wpAnyH_take (i := 3) (oi := { dst := some 18, op := Op.move (Operand.tmp 4), type := 26, pos := _, after := _, guard := some (2, true) }) (v := .int .i64 0) rfl (by kernel_rfl) (by kernel_rfl) (by kernel_rfl) (fun _ _ _ h => h) (Or.inl ⟨by rfl, fun u hu => by go_simp⟩) hS ?_
  simp only [Act.put, List.setIfInBounds_toArray, List.set_cons_zero, List.set_cons_succ]
  refine wpAnyH_take (i := 4) (oi := { dst := some 19, op := Op.binOp BinOp.eql 26 (Operand.tmp 18) (Operand.const (Value.int IntKind.i64 0)) 26, type := 4, pos := _, after := _, guard := some (2, true) }) (v := .bool true) rfl (by kernel_rfl) (by kernel_rfl) (by kernel_rfl) (fun _ _ _ h => h) (Or.inl ⟨by rfl, fun u hu => by go_simp⟩) hS ?_
  simp only [Act.put, List.setIfInBounds_toArray, List.set_cons_zero, List.set_cons_succ]
  refine wpAnyH_take (i := 5) (oi := { dst := some 20, op := Op.pick (Operand.tmp 17) (Operand.tmp 19) (Operand.const (Value.bool false)), type := 4, pos := _, after := _, guard := none }) (v := .bool true) rfl (by kernel_rfl) (by kernel_rfl) (by kernel_rfl) (fun _ _ _ h => h) (Or.inl ⟨by rfl, fun u hu => by go_simp⟩) hS ?_
  simp only [Act.put, List.setIfInBounds_toArray, List.set_cons_zero, List.set_cons_succ]
  refine wpAnyH_take (i := 6) (oi := { dst := some 21, op := Op.move (Operand.tmp 20), type := 4, pos := _, after := _, guard := none }) (v := .bool true) rfl (by kernel_rfl) (by kernel_rfl) (by kernel_rfl) (fun _ _ _ h => h) (Or.inl ⟨by rfl, fun u hu => by go_simp⟩) hS ?_
  simp only [Act.put, List.setIfInBounds_toArray, List.set_cons_zero, List.set_cons_succ]
  refine wpAnyH_take (i := 7) (oi := { dst := some 22, op := Op.move (Operand.tmp 1), type := 25, pos := _, after := _, guard := some (6, true) }) (v := .slice a 9 cap) rfl (by kernel_rfl) (by kernel_rfl) (by kernel_rfl) (fun _ _ _ h => h) (Or.inl ⟨by rfl, fun u hu => by go_simp⟩) hS ?_
  simp only [Act.put, List.setIfInBounds_toArray, List.set_cons_zero, List.set_cons_succ]
  refine wpAnyH_take (i := 8) (oi := { dst := some 23, op := Op.call { callee := Callee.builtin Builtin.len, args := #[Operand.tmp 22], argTypes := #[25] }, type := 3, pos := _, after := _, guard := some (6, true) }) (v := .int .i64 9) rfl (by kernel_rfl) (by kernel_rfl) (by kernel_rfl) (fun _ _ _ h => h) (Or.inl ⟨by rfl, fun u hu => by go_simp⟩) hS ?_
  simp only [Act.put, List.setIfInBounds_toArray, List.set_cons_zero, List.set_cons_succ]
  refine wpAnyH_take (i := 9) (oi := { dst := some 24, op := Op.binOp BinOp.eql 3 (Operand.tmp 23) (Operand.const (Value.int IntKind.i64 9)) 3, type := 4, pos := _, after := _, guard := some (6, true) }) (v := .bool true) rfl (by kernel_rfl) (by kernel_rfl) (by kernel_rfl) (fun _ _ _ h => h) (Or.inl ⟨by rfl, fun u hu => by go_simp⟩) hS ?_
  simp only [Act.put, List.setIfInBounds_toArray, List.set_cons_zero, List.set_cons_succ]
  refine wpAnyH_take (i := 10) (oi := { dst := some 25, op := Op.pick (Operand.tmp 21) (Operand.tmp 24) (Operand.const (Value.bool false)), type := 4, pos := _, after := _, guard := none }) (v := .bool true) rfl (by kernel_rfl) (by kernel_rfl) (by kernel_rfl) (fun _ _ _ h => h) (Or.inl ⟨by rfl, fun u hu => by go_simp⟩) hS ?_
  simp only [Act.put, List.setIfInBounds_toArray, List.set_cons_zero, List.set_cons_succ]
  refine wpAnyH_take (i := 11) (oi := { dst := some 26, op := Op.move (Operand.tmp 25), type := 4, pos := _, after := _, guard := none }) (v := .bool true) rfl (by kernel_rfl) (by kernel_rfl) (by kernel_rfl) (fun _ _ _ h => h) (Or.inl ⟨by rfl, fun u hu => by go_simp⟩) hS ?_
  simp only [Act.put, List.setIfInBounds_toArray, List.set_cons_zero, List.set_cons_succ]
  refine wpAnyH_take (i := 12) (oi := { dst := some 27, op := Op.load 24 (Operand.tmp 3), type := 24, pos := _, after := _, guard := some (11, true) }) (v := .agg #[.string uName, .slice pa 1 pc]) rfl (by kernel_rfl) (by kernel_rfl) (by kernel_rfl) (fun _ _ _ h => h) (Or.inl ⟨by rfl, fun u hu => by (have z0 : u.cell? ⟨ub, 0, none⟩ = some (.string uName) := (cellO ((hu.block _ (Array.getElem?_eq_some_iff.1 HU.out).1).trans HU.out)).trans rfl; have z1 : u.cell? ⟨ub, 1, none⟩ = some (.slice pa 1 pc) := (cellO ((hu.block _ (Array.getElem?_eq_some_iff.1 HU.out).1).trans HU.out)).trans rfl; go_simp)⟩) hS ?_
  simp only [Act.put, List.setIfInBounds_toArray, List.set_cons_zero, List.set_cons_succ]
  refine wpAnyH_ready (rs := [13]) (by kernel_rfl) (by simp) (AllReadyH.cons (o := { dst := some 28, op := Op.call { callee := Callee.value (Operand.func 38), args := #[], argTypes := #[] }, type := 24, pos := _, after := _, guard := some (11, true) }) rfl (fun K hK => ?_) AllReadyH.nil)
  go_simp
  refine (unit38_any _).mono ?_
  rintro e W1 ⟨⟨ua, rfl, hua⟩, hb1⟩
  have hS1 := hS.trans (hb1.mono hS.size)
  have HUA := hidd hua
  clear hua hb1
  show K _ W1
  refine hK.out _ _ hS1 (fun hS => ?_)
  clear hK K
  refine wpAnyH_ready (rs := [14]) (by kernel_rfl) (by simp) (AllReadyH.cons (o := { dst := some 29, op := Op.call { callee := Callee.value (Operand.func 14), args := #[Operand.tmp 27, Operand.tmp 28], argTypes := #[24, 24] }, type := 4, pos := _, after := _, guard := some (11, true) }) rfl (fun K hK => ?_) AllReadyH.nil)
  go_simp
  refine (SameUnit_any uName uProtos pa ua pc 1 W1 ((HPL.out.below hS).mono hS.size) HUA.out (by decide) (by decide) HPC.out (by decide)).mono ?_
  rintro e W2 ⟨rfl, hb2⟩
  have hS2 := hS.trans (hb2.mono hS.size)
  clear hb2
  show K _ W2
  refine hK.out _ _ hS2 (fun hS => ?_)
  clear hK K
  refine wpAnyH_take (i := 15) (oi := { dst := some 30, op := Op.pick (Operand.tmp 26) (Operand.tmp 29) (Operand.const (Value.bool false)), type := 4, pos := _, after := _, guard := none }) (v := .bool true) rfl (by kernel_rfl) (by kernel_rfl) (by kernel_rfl) (fun _ _ _ h => h) (Or.inl ⟨by rfl, fun u hu => by go_simp⟩) hS ?_
  simp only [Act.put, List.setIfInBounds_toArray, List.set_cons_zero, List.set_cons_succ]
  refine wpAnyH_take (i := 16) (oi := { dst := some 0, op := Op.assign (Operand.tmp 30), type := 4, pos := _, after := _, guard := none }) (v := .bool true) rfl (by kernel_rfl) (by kernel_rfl) (by kernel_rfl) (fun _ _ _ h => h) (Or.inl ⟨by rfl, fun u hu => by go_simp⟩) hS ?_
  simp only [Act.put, List.setIfInBounds_toArray, List.set_cons_zero, List.set_cons_succ]
  refine wpAnyH_done (by kernel_rfl) ?_ _
  go_wp2_with fail
  go_ret
  exact ⟨rfl, HB.out.trans (hS.mono HB.out.size)⟩
end Go.Proofs.YtfmanhkeclogfaaGreatDoor
