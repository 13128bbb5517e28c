/- Chapter 9: any instruction; a procedure. -/
import Derived.Test.YthikdpclifeonaaGreatDoorK18
namespace Go.Proofs.YthikdpclifeonaaGreatDoor
set_option linter.unusedVariables false
set_option linter.unusedSimpArgs false
open Go.RowKit

theorem cellO {w : World} {N q : Nat} {cs : Array Value} {t : TypeId} (h : w.heap[N]? = some (.cells cs t (0, 0))) : w.cell? ⟨N, q, none⟩ = cs[q]? := by simp [World.cell?, h]
theorem PL.at {B : Nat} {w : World} {a : Option Addr} {ps : List Pro} {q : Nat} {P : Pro} (h : PL B w a ps) (hP : ps[q]? = some P) : ∃ b o, a = some ⟨b, o, none⟩ ∧ b < B ∧ ∀ i p, ps[i]? = some p → ∃ ca cc, w.cell? ⟨b, o + i * 2, none⟩ = some (.int .i64 p.args) ∧ w.cell? ⟨b, o + i * 2 + 1, none⟩ = some (.slice ca p.code.length cc) ∧ p.code.length ≤ cc ∧ CL B w ca p.code := by
  rcases h with h | h
  · subst h; simp at hP
  · exact h
set_option maxRecDepth 100000 in
set_option maxHeartbeats 1600000 in
theorem closure_any {B C G R : Nat} {PP : List Pro} {pa : Option Addr} {pc kc : Nat} {gv : Value} {K : Kn} {w : World} (ck : CK B C G R PP pa pc kc gv K w) {q : Nat} {s : Bool × Int} (hs : K[q]? = some (some s)) (a : Int) :
    Calls Tryz.prog 134 #[.pointer (some ⟨C, 0, none⟩), .int .i64 q, .int .i64 a] w fun r w' => r = .returned (.int .i64 (closeW PP q a K).1) ∧ KR G (closeW PP q a K).2 w' ∧ Keep G w w' := by
  have hq : q < PP.length := by rw [← ck.len]; exact (List.getElem?_eq_some_iff.1 hs).1
  have hPq : PP[q]? = some PP[q] := List.getElem?_eq_getElem hq
  obtain ⟨pb, po, rfl, hpb, hall⟩ := ck.pl.at hPq
  have d0 : w.cell? ⟨C, 0, none⟩ = some (.slice (some ⟨pb, po, none⟩) PP.length pc) := (cellO ck.c).trans rfl
  have d1 : w.cell? ⟨C, 1, none⟩ = some (.slice (some ⟨G, 0, none⟩) PP.length kc) := (cellO ck.c).trans rfl
  by_cases hno : a ≤ q ∨ (PP.length : Int) ≤ a ∨ (K.getD a.toNat none).isSome = true
  · have h := closure_no C G pb po PP.length pc kc q a K w ck.k ck.len hq (by have := ck.n; omega) d0 d1 hno
    have e : closeW PP q a K = (if a ≤ q ∨ (PP.length : Int) ≤ a then 3 else 8, K) := by
      unfold closeW
      by_cases h1 : a ≤ q ∨ (PP.length : Int) ≤ a
      · rw [if_pos h1, if_pos h1]
      · rw [if_neg h1, if_neg h1, if_pos (by rcases hno with h | h | h; exact absurd (Or.inl h) h1; exact absurd (Or.inr h) h1; exact h)]
    rw [e]
    refine h.mono ?_
    rintro r w1 ⟨rfl, rfl⟩
    exact ⟨rfl, ck.k, Keep.refl _ _⟩
  · have h1 : ¬ (a ≤ q ∨ (PP.length : Int) ≤ a) := fun h => hno (h.elim Or.inl (fun h => Or.inr (Or.inl h)))
    have h2 : ¬ (K.getD a.toNat none).isSome = true := fun h => hno (Or.inr (Or.inr h))
    obtain ⟨t, rfl⟩ : ∃ t : Nat, a = t := ⟨a.toNat, by omega⟩
    have ht : t < PP.length := by omega
    have hPt : PP[t]? = some PP[t] := List.getElem?_eq_getElem ht
    obtain ⟨ca, cc, p0, p1, _⟩ := hall t _ hPt
    have hat : K[t]? = some none := by
      have hk : K[t]? = some (K[t]'(by rw [ck.len]; exact ht)) := List.getElem?_eq_getElem _
      rw [Int.toNat_natCast, List.getD_eq_getElem?_getD, hk] at h2
      rw [hk]
      generalize (K[t]'(by rw [ck.len]; exact ht)) = z at h2
      cases z with
      | none => rfl
      | some z => simp at h2
    have hb := ck.kb q s hs
    have hn := ck.n
    have har := ck.ar _ (List.getElem_mem (l := PP) (n := t) ht)
    have h := closure_yes C G pb po PP.length pc kc q t PP[t].args s.2 K w ck.k ck.len (by omega) ht (by omega) ck.cg (by have := ck.bg; omega) d0 d1 p0 hat ⟨s.1, hs⟩ ⟨har.1, har.2.1⟩ (by omega)
    have e : closeW PP q (t : Nat) K = (0, K.set t (some (false, s.2 + PP[t].args))) := by
      unfold closeW
      rw [if_neg h1, if_neg h2, Int.toNat_natCast, aro_of hs, List.getD_eq_getElem?_getD, hPt]
      rfl
    rw [e]
    exact h
set_option maxRecDepth 100000 in
set_option maxHeartbeats 1600000 in
theorem ins_clo {B C G R : Nat} {PP : List Pro} {pa : Option Addr} {pc kc : Nat} {gv : Value} {K : Kn} {w : World} (ck : CK B C G R PP pa pc kc gv K w) {q : Nat} {s : Bool × Int} (hs : K[q]? = some (some s)) (b o : Nat) (x : In) (hop : x.op = 7) (c0 : w.cell? ⟨b, o, none⟩ = some (.int .i64 x.op)) (c1 : w.cell? ⟨b, o + 1, none⟩ = some (.int .i64 x.a)) :
    Calls Tryz.prog 113 #[.pointer (some ⟨C, 0, none⟩), .int .i64 q, .pointer (some ⟨b, o, none⟩)] w fun r w' => r = .returned (.int .i64 (closeW PP q x.a K).1) ∧ KR G (closeW PP q x.a K).2 w' ∧ Keep G w w' := by
  have CA := hidd (closure_any ck hs x.a)
  clear ck hs
  generalize closeW PP q x.a K = y at CA ⊢
  rw [hop] at c0
  clear hop
  go_enter Tryz.func113, Tryz.ntmps113
  go_wp2_with fail
  refine CA.out.mono ?_
  rintro e w1 ⟨rfl, h1, h2⟩
  have H := hidd (And.intro h1 h2)
  clear h1 h2
  go_wp2_with fail
  go_ret
  exact ⟨rfl, H.out⟩

/-- A value that tells what is wrong with an instruction about a global. -/
def GlOk (B : Nat) (W0 : World) (gv : Value) (gl : In → Int) : Prop := ∀ (C q b o : Nat) (x : In) (qa : Option Addr) (qc : Nat) (w : World), Below B W0 w → (x.op = 5 ∨ x.op = 12 ∨ x.op = 13) → w.cell? ⟨C, 3, none⟩ = some gv → IL B w b o x qa qc →
    Calls Tryz.prog 113 #[.pointer (some ⟨C, 0, none⟩), .int .i64 q, .pointer (some ⟨b, o, none⟩)] w fun r w' => r = .returned (.int .i64 (gl x)) ∧ Below w.heap.size w w'

/-- WHAT IS WRONG WITH AN INSTRUCTION. -/
theorem ins_any {gv : Value} {gl : In → Int} {B : Nat} {W0 : World} (hg : GlOk B W0 gv gl) {C G R : Nat} {PP : List Pro} {pa : Option Addr} {pc kc : Nat} {K : Kn} {w : World} (hw0 : Below B W0 w) (ck : CK B C G R PP pa pc kc (gv) K w) {q : Nat} {s : Bool × Int} (hs : K[q]? = some (some s)) {P : Pro} (hP : PP[q]? = some P) (b o : Nat) (x : In) (qa : Option Addr) (qc : Nat) (hb : b < B) (hx : IL B w b o x qa qc) :
    Calls Tryz.prog 113 #[.pointer (some ⟨C, 0, none⟩), .int .i64 q, .pointer (some ⟨b, o, none⟩)] w fun r w' => r = .returned (.int .i64 (insW PP gl q P.code.length x K).1) ∧ KR G (insW PP gl q P.code.length x K).2 w' ∧ Keep G w w' := by
  have hlt := ck.lt
  have hC : C < w.heap.size := (Array.getElem?_eq_some_iff.1 ck.c).1
  have hq : q < PP.length := (List.getElem?_eq_some_iff.1 hP).1
  obtain ⟨pb, po, rfl, hpb, hall⟩ := ck.pl.at hP
  obtain ⟨ca, cc, p0, p1, _, _⟩ := hall q P hP
  have d0 : w.cell? ⟨C, 0, none⟩ = some (.slice (some ⟨pb, po, none⟩) PP.length pc) := (cellO ck.c).trans rfl
  have d1 : w.cell? ⟨C, 1, none⟩ = some (.slice (some ⟨G, 0, none⟩) PP.length kc) := (cellO ck.c).trans rfl
  have d2 : w.cell? ⟨C, 2, none⟩ = some (.slice (some ⟨R, 0, none⟩) 13 13) := (cellO ck.c).trans rfl
  have d3 : w.cell? ⟨C, 3, none⟩ = some (gv) := (cellO ck.c).trans rfl
  have hn := ck.n
  have same : ∀ {y : Int}, (Calls Tryz.prog 113 #[.pointer (some ⟨C, 0, none⟩), .int .i64 q, .pointer (some ⟨b, o, none⟩)] w fun r w' => r = .returned (.int .i64 y) ∧ w' = w) → Calls Tryz.prog 113 #[.pointer (some ⟨C, 0, none⟩), .int .i64 q, .pointer (some ⟨b, o, none⟩)] w fun r w' => r = .returned (.int .i64 y) ∧ KR G K w' ∧ Keep G w w' := fun h => h.mono (by rintro r w1 ⟨rfl, rfl⟩; exact ⟨rfl, ck.k, Keep.refl _ _⟩)
  by_cases o1 : x.op = 1
  · rw [show insW PP gl q P.code.length x K = (if -1000000000000000 ≤ x.n ∧ x.n ≤ 1000000000000000 then 0 else 3, K) by simp [insW, o1]]
    exact same (ins_num C q b o x w o1 hx.c0 hx.c2)
  by_cases o2 : x.op = 2
  · rw [show insW PP gl q P.code.length x K = (if x.n = 0 ∨ x.n = 1 then 0 else 3, K) by simp [insW, o2]]
    exact same (ins_bool C q b o x w o2 hx.c0 hx.c2)
  by_cases o3 : x.op = 3
  · rw [show insW PP gl q P.code.length x K = ((wrong [x.quote]).1, K) by simp [insW, o3]]
    exact ins_quote B C G q b o K x qa qc w o3 hx (by omega) ck.k
  by_cases o4 : x.op = 4 ∨ x.op = 11
  · rw [show insW PP gl q P.code.length x K = (if 0 ≤ x.a ∧ x.a < s.2 then 0 else 3, K) by unfold insW; rw [if_neg o1, if_neg o2, if_neg o3, if_pos o4, aro_of hs]]
    exact ins_local C G q b o PP.length kc K s.1 s.2 x w o4 hx.c0 hx.c1 d1 ck.k hs hq hn (by omega) hC
  by_cases o5 : x.op = 5 ∨ x.op = 12 ∨ x.op = 13
  · rw [show insW PP gl q P.code.length x K = (gl x, K) by unfold insW; rw [if_neg o1, if_neg o2, if_neg o3, if_neg o4, if_pos o5]]
    exact (hg C q b o x qa qc w hw0 o5 d3 hx).mono (by rintro r w1 ⟨rfl, hb⟩; exact ⟨rfl, ck.k.keep hb, Keep.below (Keep.refl _ _) hb⟩)
  by_cases o6 : x.op = 6
  · rw [show insW PP gl q P.code.length x K = (if argsB x.own = 0 then 7 else 0, K) by unfold insW; rw [if_neg o1, if_neg o2, if_neg o3, if_neg o4, if_neg o5, if_pos o6]]
    exact ins_prim C G R q b o K x w o6 hx.c0 hx.c4 d2 ck.r ck.k (by omega) hC
  by_cases o7 : x.op = 7
  · rw [show insW PP gl q P.code.length x K = closeW PP q x.a K by unfold insW; rw [if_neg o1, if_neg o2, if_neg o3, if_neg o4, if_neg o5, if_neg o6, if_pos o7]]
    exact ins_clo ck hs b o x o7 hx.c0 hx.c1
  by_cases o8 : x.op = 8
  · rw [show insW PP gl q P.code.length x K = (if 0 ≤ x.a ∧ x.a < 2001 then 0 else 3, K) by
      unfold insW
      rw [if_neg o1, if_neg o2, if_neg o3, if_neg o4, if_neg o5, if_neg o6, if_neg o7, if_pos o8]
      by_cases h : 0 ≤ x.a ∧ x.a ≤ 2000
      · rw [if_pos h, if_pos (by omega)]
      · rw [if_neg h, if_neg (by omega)]]
    exact same (ins_call C q b o x w o8 hx.c0 hx.c1)
  by_cases o9 : x.op = 9 ∨ x.op = 10
  · rw [show insW PP gl q P.code.length x K = (if 0 ≤ x.a ∧ x.a < P.code.length then 0 else 3, K) by unfold insW; rw [if_neg o1, if_neg o2, if_neg o3, if_neg o4, if_neg o5, if_neg o6, if_neg o7, if_neg o8, if_pos o9]]
    exact ins_jump C G q b o PP.length pb po pc P.code.length cc ca K x w o9 hx.c0 hx.c1 d0 p1 ck.k hq hn (by omega) hC (by omega)
  have e : insW PP gl q P.code.length x K = (if x.op = 14 ∨ x.op = 15 then 0 else 1, K) := by
    unfold insW
    rw [if_neg o1, if_neg o2, if_neg o3, if_neg o4, if_neg o5, if_neg o6, if_neg o7, if_neg o8, if_neg o9]
    split <;> rfl
  rw [e]
  exact same (ins_rest C q b o x w (by omega) hx.c0)

theorem codeW_drop {PP gl q len} {code : List In} {i : Nat} {x : In} {K : Kn} (h : code[i]? = some x) : codeW PP gl q len (code.drop i) K = if (insW PP gl q len x K).1 = 0 then codeW PP gl q len (code.drop (i + 1)) (insW PP gl q len x K).2 else insW PP gl q len x K := by
  obtain ⟨hi, e⟩ := List.getElem?_eq_some_iff.1 h
  rw [List.drop_eq_getElem_cons hi, e, codeW]
/-- What is known stays known. -/
def Kge (K K' : Kn) : Prop := ∀ (q : Nat) (s : Bool × Int), K[q]? = some (some s) → K'[q]? = some (some s)
theorem insW_ge {PP gl q len x} {K : Kn} : Kge K (insW PP gl q len x K).2 := by
  unfold insW
  repeat' split
  all_goals first | exact fun _ _ h => h | skip
  unfold closeW
  repeat' split
  all_goals first | exact fun _ _ h => h | skip
  rename_i h1 h2
  intro t u ht
  rw [List.getElem?_set]
  by_cases e : x.a.toNat = t
  · exfalso
    subst e
    rw [List.getD_eq_getElem?_getD, ht] at h2
    simp at h2
  · rw [if_neg e]; exact ht
theorem call_le {PP gl q len x} {K : Kn} (h : (insW PP gl q len x K).1 = 0) (h8 : x.op = 8) : 0 ≤ x.a ∧ x.a ≤ 2000 := by
  unfold insW at h
  simp [h8] at h
  exact h

set_option maxRecDepth 100000 in
set_option maxHeartbeats 1600000 in
theorem proto_any {gv : Value} {gl : In → Int} {B : Nat} {W0 : World} (hg : GlOk B W0 gv gl) {C G R : Nat} {PP : List Pro} {pa : Option Addr} {pc kc : Nat} {K : Kn} {w : World} (hw0 : Below B W0 w) (ck : CK B C G R PP pa pc kc (gv) K w) {q : Nat} {P : Pro} (hP : PP[q]? = some P) :
    Calls Tryz.prog 82 #[.pointer (some ⟨C, 0, none⟩), .int .i64 q] w fun r w' => r = .returned (.int .i64 (protoW PP gl q K).1) ∧ CK B C G R PP pa pc kc (gv) (protoW PP gl q K).2 w' ∧ Below B w w' := by
  have hq : q < PP.length := (List.getElem?_eq_some_iff.1 hP).1
  have hkq : q < K.length := by rw [ck.len]; exact hq
  have hk : K[q]? = some K[q] := List.getElem?_eq_getElem hkq
  have hC : C < w.heap.size := (Array.getElem?_eq_some_iff.1 ck.c).1
  have hn := ck.n
  have hkc := ck.kc
  have hpc := ck.pc
  have d1 : w.cell? ⟨C, 1, none⟩ = some (.slice (some ⟨G, 0, none⟩) PP.length kc) := (cellO ck.c).trans rfl
  generalize K[q] = z at hk
  cases z with
  | none =>
    have k1 := ck.k.cell (j := 1) hk (by omega) rfl
    have e : protoW PP gl q K = (8, K) := by
      unfold protoW
      rw [List.getD_eq_getElem?_getD, hk]
      rfl
    rw [e]
    have HC := hidd ck
    clear ck hk e hP hkq
    go_enter Tryz.func82, Tryz.ntmps82
    go_wp2_with fail
    go_ret
    exact ⟨rfl, HC.out, Below.refl _ _⟩
  | some s =>
    have k1 := ck.k.cell (j := 1) hk (by omega) rfl
    obtain ⟨pb, po, rfl, hpb, hall⟩ := ck.pl.at hP
    obtain ⟨ca, cc, p0, p1, hcc, hcl⟩ := hall q P hP
    have hlen := ck.ar P (List.mem_of_getElem? hP)
    have hl1 : 1 ≤ P.code.length := hlen.2.2.1
    have hl6 : P.code.length ≤ 6000 := hlen.2.2.2
    have d0 : w.cell? ⟨C, 0, none⟩ = some (.slice (some ⟨pb, po, none⟩) PP.length pc) := (cellO ck.c).trans rfl
    obtain ⟨cb, co, rfl, hcb, hins⟩ : ∃ b o, ca = some ⟨b, o, none⟩ ∧ b < B ∧ ∀ i x, P.code[i]? = some x → ∃ qa qc, IL B w b (o + i * 11) x qa qc := by
      rcases hcl with h | h
      · rw [h] at hl1; simp at hl1
      · exact h
    have e : protoW PP gl q K = if (codeW PP gl q P.code.length P.code K).1 = 0 then (if stackOk P.code s.1 then 0 else 8, (codeW PP gl q P.code.length P.code K).2) else codeW PP gl q P.code.length P.code K := by
      unfold protoW
      have hg : PP.getD q ⟨0, []⟩ = P := by rw [List.getD_eq_getElem?_getD, hP]; rfl
      rw [List.getD_eq_getElem?_getD (l := K), hk, hg]
      rfl
    rw [e]
    clear e
    obtain ⟨rs, hrs⟩ : ∃ r, r = (if (codeW PP gl q P.code.length P.code K).1 = 0 then (if stackOk P.code s.1 then (0 : Int) else 8, (codeW PP gl q P.code.length P.code K).2) else codeW PP gl q P.code.length P.code K) := ⟨_, rfl⟩
    rw [← hrs]
    have HRS := hidd hrs
    clear hrs
    have HW0 := hidd hw0
    clear hw0
    have HC := hidd ck
    have HP := hidd hP
    have HK := hidd hk
    have HI := hidd hins
    obtain ⟨len, hlenE⟩ : ∃ len, len = P.code.length := ⟨_, rfl⟩
    have HL := hidd hlenE
    rw [← hlenE] at p1 hcc hl1 hl6
    clear ck hk hP hkq hall hins hcl hlen hlenE
    go_enter Tryz.func82, Tryz.ntmps82
    go_wp2_with fail
    clear d0 d1 p0 p1 k1
    go_loopw [27] (fun i wr => ∃ (j : Nat) (K' : Kn), j ≤ len ∧ i = .int .i64 j ∧ Hid (CK B C G R PP (some ⟨pb, po, none⟩) pc kc (gv) K' wr ∧ Below B w wr ∧ Kge K K' ∧ codeW PP gl q P.code.length P.code K = codeW PP gl q P.code.length (P.code.drop j) K' ∧ ∀ i x, i < j → P.code[i]? = some x → x.op = 8 → 0 ≤ x.a ∧ x.a ≤ 2000)) (fun i _ => len - (intOf i).toNat)
    case atStart => exact ⟨0, K, Nat.zero_le _, rfl, HC.out, Below.refl _ _, fun _ _ h => h, rfl, fun i x h => absurd h (Nat.not_lt_zero _)⟩
    case round =>
      obtain ⟨j, K', hj, rfl, HR⟩ := hrel
      by_cases hlt : j < len
      · have hjc : j < P.code.length := by rw [← HL.out]; exact hlt
        have hx : P.code[j]? = some P.code[j] := List.getElem?_eq_getElem hjc
        obtain ⟨qa, qc, hil⟩ := HI.out j _ hx
        have IA := hidd (ins_any hg (HW0.out.trans HR.out.2.1) HR.out.1 (HR.out.2.2.1 q s HK.out) HP.out cb (co + j * 11) _ qa qc hcb (hil.below hcb HR.out.2.1))
        have HX := hidd hx
        have HD := hidd (codeW_drop (PP := PP) (gl := gl) (q := q) (len := P.code.length) (K := K') hx)
        have HCL := hidd (fun (h : (insW PP gl q P.code.length P.code[j] K').1 = 0) => call_le (PP := PP) (gl := gl) (q := q) (len := P.code.length) (K := K') (x := P.code[j]) h)
        have HKB := hidd (insW_kb (PP := PP) (gl := gl) (q := q) (len := P.code.length) (x := P.code[j]) HR.out.1.kb HR.out.1.len (HR.out.2.2.1 q s HK.out) HR.out.1.ar)
        have HLE := hidd (insW_len PP gl q P.code.length P.code[j] K')
        have HGE := hidd (insW_ge (PP := PP) (gl := gl) (q := q) (len := P.code.length) (x := P.code[j]) (K := K'))
        clear hil hx
        generalize hy : insW PP gl q P.code.length P.code[j] K' = y at IA HD HCL HKB HLE HGE
        obtain ⟨y1, y2⟩ := y
        simp only at IA HD HCL HKB HLE HGE
        clear hy
        go_wp2_with fail
        refine IA.out.mono ?_
        rintro e w1 ⟨rfl, h1, h2⟩
        have HC1 := hidd (HR.out.1.next h2 h1 HLE.out HKB.out)
        have HB1 := hidd (HR.out.2.1.trans (h2.toBelow HR.out.1.bg (Nat.le_of_lt HR.out.1.lt)))
        clear h1 h2 IA
        by_cases y0 : y1 = 0
        · subst y0
          go_wp2_with fail
          go_roundw
          case rel =>
            refine ⟨j + 1, y2, by omega, by go_num, HC1.out, HB1.out, fun t u h => HGE.out t u (HR.out.2.2.1 t u h), ?_, ?_⟩
            · rw [HR.out.2.2.2.1, HD.out]; simp
            · intro i x hi hx8 h8
              by_cases e : i = j
              · subst e
                rw [HX.out] at hx8
                simp only [Option.some.injEq] at hx8
                subst hx8
                first | exact HCL.out rfl h8 | exact HCL.out trivial h8
              · exact HR.out.2.2.2.2 i x (by omega) hx8 h8
          case measure => simp [intOf]; omega
        · have y0' : (y1 != 0) = true := by simpa using y0
          have HE : Hid (codeW PP gl q P.code.length P.code K = (y1, y2)) := by
            unfold Hid
            rw [HR.out.2.2.2.1, HD.out, if_neg y0]
          have hre := HRS.out
          rw [HE.out, if_neg (show ¬ (y1, y2).fst = 0 from y0)] at hre
          subst hre
          clear HRS HE HD
          go_wp2_with fail
          go_ret
          exact ⟨rfl, HC1.out, HB1.out⟩
      · obtain rfl : j = len := by omega
        have HE : Hid (codeW PP gl q P.code.length P.code K = (0, K')) := by
          unfold Hid
          rw [HR.out.2.2.2.1, List.drop_of_length_le (by rw [HL.out]; exact Nat.le_refl _), codeW]
        have hre := HRS.out
        rw [HE.out, if_pos (show ((0 : Int), K').fst = 0 from rfl)] at hre
        obtain ⟨yy, hyy⟩ : ∃ y, y = (if stackOk P.code s.1 = true then (0 : Int) else 8) := ⟨_, rfl⟩
        rw [← hyy] at hre
        subst hre
        clear HRS HE
        have d1 : wr.cell? ⟨C, 1, none⟩ = some (.slice (some ⟨G, 0, none⟩) PP.length kc) := (cellO HR.out.1.c).trans rfl
        have k0 := HR.out.1.k.cell (j := 0) (HR.out.2.2.1 q s HK.out) (by omega) rfl
        rw [Nat.add_zero] at k0
        have US := hidd (usesStackWell_any P.code s.1 cb co cc wr (by have := HR.out.1.lt; omega) (by have := HL.out; omega) (by have := HL.out; omega) (fun i x hx => by
          obtain ⟨qa, qc, hil⟩ := HI.out i x hx
          have h2 := hil.below hcb HR.out.2.1
          exact ⟨h2.c0, h2.c1, HR.out.2.2.2.2 i x (by rw [HL.out]; exact (List.getElem?_eq_some_iff.1 hx).1) hx⟩))
        rw [← HL.out] at US
        have OT := hidd (fun w => otherwise_any (stackOk P.code s.1) 8 w)
        rw [← hyy] at OT
        clear hyy
        generalize stackOk P.code s.1 = bb at US OT
        have hlt' : ¬ j < j := by omega
        go_wp2_with fail
        refine US.out.mono ?_
        rintro e w1 ⟨rfl, hb1⟩
        have HC1 := hidd (HR.out.1.next (Keep.below (Keep.refl _ _) hb1) (HR.out.1.k.keep hb1) rfl HR.out.1.kb)
        have HB1 := hidd (HR.out.2.1.trans (hb1.mono (Nat.le_of_lt HR.out.1.lt)))
        clear hb1 US
        go_wp2_with fail
        refine (OT.out _).mono ?_
        rintro e w2 ⟨rfl, rfl⟩
        go_wp2_with fail
        go_ret
        exact ⟨rfl, HC1.out, HB1.out⟩
end Go.Proofs.YthikdpclifeonaaGreatDoor
