/- Chapter 3's laws: alive. Chapter 3, plainly: how much a library has. Chapter 3's laws: a declaration is made. -/
import Derived.Test.YtonafbennobgdaaGreatDoorK40
namespace Go.Proofs.YtonafbennobgdaaGreatDoor
section
set_option linter.unusedVariables false
set_option linter.unusedSimpArgs false
open Go.RowKit

def alT : ByteArray := ⟨#[40, 108, 105, 98, 114, 97, 114, 121, 32, 40, 97, 32, 98, 41, 32, 40, 101, 120, 112, 111, 114, 116, 32, 120, 41, 32, 40, 105, 110, 99, 108, 117, 100, 101, 32, 102, 41, 41]⟩
def alF : ByteArray := ⟨#[40, 100, 101, 102, 105, 110, 101, 32, 120, 32, 49, 41]⟩
def alD : Dat := liD [syD ⟨#[108, 105, 98, 114, 97, 114, 121]⟩, liD [syD ⟨#[97]⟩, syD ⟨#[98]⟩], liD [syD ⟨#[101, 120, 112, 111, 114, 116]⟩, syD ⟨#[120]⟩], liD [syD ⟨#[105, 110, 99, 108, 117, 100, 101]⟩, syD ⟨#[102]⟩]]
def alE : Env := ⟨[(⟨#[102]⟩, alF)], [], []⟩
def alS : LibS := ⟨⟨#[97, 32, 98]⟩, [(⟨#[120]⟩, ⟨#[120]⟩)], [], [liD [syD ⟨#[100, 101, 102, 105, 110, 101]⟩, syD ⟨#[120]⟩, ⟨1, 1, ⟨#[]⟩, 0, 0, []⟩]]⟩
theorem alRead : readL alT.data.toList = .inr [alD] := by kernel_rfl
theorem alParse : parseF alE alD = .ok alS := by kernel_rfl
set_option maxRecDepth 100000 in
set_option maxHeartbeats 3200000 in
theorem alive_any (w : World) (ht : TabW w) (h0 : 0 < w.heap.size) : Calls Tryz.prog 12 #[] w fun e w' => e = .returned (.bool true) ∧ Below w.heap.size w w' := by
  obtain ⟨W1, hW1⟩ : ∃ W1, W1 = w.alloc (.cells #[.string ⟨#[102]⟩, .string alF] 49) := ⟨_, rfl⟩
  have b1 : Below w.heap.size w W1 := by rw [hW1]; exact (Below.refl _ _).alloc (Nat.le_refl _) _
  have f1 : W1.heap[w.heap.size]? = some (.cells #[.string ⟨#[102]⟩, .string alF] 49 (0, 0)) := by rw [hW1]; exact World.alloc_heap_new w _
  have O1 : Hid (∀ W, Calls Tryz.prog 40 #[.string alT] W (ToldO alD W)) := fun W => one40_any _ _ (by decide) alRead W
  have HB : Hid (Below w.heap.size w W1) := b1
  have HF : Hid (∀ W, Below W1.heap.size W1 W → EnvW W.heap.size alE (.slice (some ⟨w.heap.size, 0, none⟩) 1 1) (.slice none 0 0) (.slice none 0 0) W) := fun W hb => by
    have hl := (Array.getElem?_eq_some_iff.1 f1).1
    have g := (hb.block _ hl).trans f1
    have c0 : W.cell? ⟨w.heap.size, 0, none⟩ = some _ := (cellO g).trans rfl
    have c1 : W.cell? ⟨w.heap.size, 1, none⟩ = some _ := (cellO g).trans rfl
    refine ⟨⟨_, 1, rfl, Or.inr ⟨w.heap.size, 0, rfl, Nat.lt_of_lt_of_le hl hb.size, fun j p hj => ?_⟩⟩, SV.nil _ _, SV.nil _ _, by decide, by decide, by decide⟩
    match j, hj with
    | 0, hj =>
      obtain rfl := Option.some.inj hj
      exact ⟨c0, c1, by decide⟩
    | j + 1, hj => simp [alE] at hj
  have HT : Hid (TabW w ∧ 0 < w.heap.size) := ⟨ht, h0⟩
  have HW := hidd hW1.symm
  clear b1 f1 hW1 ht h0
  go_enter Tryz.func12, Tryz.ntmps12
  go_wp2_with fail
  show Calls Tryz.prog 40 #[.string alT] (w.alloc (.cells #[.string ⟨#[102]⟩, .string alF] 49)) _
  rw [HW.out]
  refine (O1.out _).mono ?_
  rintro e w2 ⟨hb2, da, dc, df, rfl, hdc, hdd⟩
  have PA := hidd (Parse_any w2.heap.size df alE (.slice (some ⟨w.heap.size, 0, none⟩) 1 1) (.slice none 0 0) (.slice none 0 0) alD da dc w2 (Nat.le_refl _) (Nat.lt_of_lt_of_le HT.out.2 (Nat.le_trans HB.out.size hb2.size)) (HF.out _ hb2) (HT.out.1.below (HB.out.trans (hb2.mono HB.out.size)) HT.out.2) (Dn.of hdd) hdc (by decide))
  rw [alParse] at PA
  have HB2 : Hid (Below w.heap.size w w2) := HB.out.trans (hb2.mono HB.out.size)
  clear hb2 hdc hdd HW HF O1 HB HT
  go_wp2_with fail
  refine PA.out.mono ?_
  rintro e w3 ⟨hb3, ev, iv, bv, rfl, hm⟩
  obtain ⟨ea, ec, rfl, _⟩ := hm.ex
  obtain ⟨ia, in_, ic, rfl⟩ := SeL.slice hm.im
  obtain ⟨ba, bc, bf, rfl, _⟩ := hm.bo
  have HB3 : Hid (Below w.heap.size w w3) := HB2.out.trans (hb3.mono HB2.out.size)
  clear hb3 hm HB2 PA
  unfold alS
  simp only [List.length_cons, List.length_nil]
  go_wp2_with fail
  go_ret
  exact ⟨rfl, HB3.out.alloc HB3.out.size _⟩
end
section
set_option linter.unusedVariables false
set_option linter.unusedSimpArgs false
open Go.RowKit

theorem namesF_lenG : ∀ (l : List Dat) (ns : List ByteArray), namesF l = .ok ns → ns.length = l.length
  | [], ns, h => by rw [namesF] at h; cases h; rfl
  | d :: r, ns, h => by
    rw [namesF] at h
    cases hn : nameF d with
    | no x => rw [hn] at h; cases h
    | ok n =>
      rw [hn] at h
      cases hr : namesF r with
      | no x => simp only [Er.bind, hr] at h; cases h
      | ok l' =>
        simp only [Er.bind, hr] at h
        cases h
        simp [namesF_lenG r l' hr]
theorem renamesF_lenG : ∀ (l : List Dat) (q : List ByteArray × List ByteArray), renamesF l = .ok q → q.1.length = l.length ∧ q.2.length = l.length
  | [], q, h => by rw [renamesF] at h; cases h; exact ⟨rfl, rfl⟩
  | d :: r, q, h => by
    rw [renamesF] at h
    cases hn : justF d 2 with
    | no x => rw [hn] at h; cases h
    | ok n =>
      rw [hn] at h
      cases hr : renamesF r with
      | no x => simp only [Er.bind, hr] at h; cases h
      | ok l' =>
        simp only [Er.bind, hr] at h
        cases h
        have := renamesF_lenG r l' hr
        simp [this.1, this.2]
theorem setF_se : ∀ (n : Nat) (d : Dat) (x : Se), okD d → setF n d = .ok x → seOk x
  | 0, d, x, _, h => by rw [setF] at h; cases h
  | n + 1, d, x, ho, h => by
    rw [setF] at h
    unfold thingsF at h
    split at h
    · rename_i hk
      have hl := okD_list ho hk.1
      simp only [Er.bind] at h
      have hdl : (d.kids.drop 2).length ≤ 2000 := by rw [List.length_drop]; omega
      split at h
      · cases hc : calledF d with
        | no z => rw [hc] at h; cases h
        | ok nm =>
          rw [hc] at h
          cases h
          rw [seOk, seOkL]
          simp
      · have hod : okD (d.kids.getD 1 d) := by
          rw [List.getD_eq_getElem?_getD]
          cases hg : d.kids[1]? with
          | none => exact ho
          | some y => exact okL_mem hl.2 _ (List.mem_of_getElem? hg)
        cases hs : setF n (d.kids.getD 1 d) with
        | no z => rw [hs] at h; cases h
        | ok k =>
          have hk1 := setF_se n _ k hod hs
          have hkl : seOkL [k] := by rw [seOkL, seOkL]; exact ⟨hk1, trivial⟩
          rw [hs] at h
          simp only at h
          split at h
          · cases hn : namesF (d.kids.drop 2) with
            | no z => rw [hn] at h; cases h
            | ok ns =>
              rw [hn] at h
              cases h
              have := namesF_lenG _ _ hn
              rw [seOk]
              exact ⟨by omega, by simp, by simp, hkl⟩
          · split at h
            · cases hn : oneF (d.kids.drop 2) with
              | no z => rw [hn] at h; cases h
              | ok y =>
                rw [hn] at h
                simp only at h
                cases hm : nameF y with
                | no z => rw [hm] at h; cases h
                | ok p =>
                  rw [hm] at h
                  cases h
                  rw [seOk]
                  exact ⟨by simp, by simp, by simp, hkl⟩
            · split at h
              · cases hn : renamesF (d.kids.drop 2) with
                | no z => rw [hn] at h; cases h
                | ok q =>
                  rw [hn] at h
                  cases h
                  have := renamesF_lenG _ _ hn
                  rw [seOk]
                  exact ⟨by omega, by omega, by simp, hkl⟩
              · cases h
                rw [seOk]
                exact ⟨by simp, by simp, by simp, hkl⟩
    · cases h
theorem seOkL_append : ∀ {a b : List Se}, seOkL a → seOkL b → seOkL (a ++ b)
  | [], b, _, hb => hb
  | x :: r, b, ha, hb => by
    rw [seOkL] at ha
    rw [List.cons_append, seOkL]
    exact ⟨ha.1, seOkL_append ha.2 hb⟩
theorem exportsF_se : ∀ (a : List Dat) (s s' : LibS), exportsF a s = .ok s' → s'.imports = s.imports
  | [], s, s', h => by rw [exportsF] at h; cases h; rfl
  | d :: r, s, s', h => by
    rw [exportsF] at h
    cases he : exportF d with
    | no x => rw [he] at h; cases h
    | ok e =>
      rw [he] at h
      simp only [Er.bind] at h
      split at h
      · cases h
      · split at h
        · have := exportsF_se r { s with exports := s.exports ++ [e] } s' h
          exact this
        · cases h
theorem importsF_se : ∀ (a : List Dat) (s s' : LibS), okL a → seOkL s.imports → importsF a s = .ok s' → seOkL s'.imports
  | [], s, s', _, hi, h => by rw [importsF] at h; cases h; exact hi
  | d :: r, s, s', ho, hi, h => by
    rw [okL] at ho
    rw [importsF] at h
    split at h
    · cases he : setF 12 d with
      | no x => rw [he] at h; cases h
      | ok e =>
        rw [he] at h
        exact importsF_se r { s with imports := s.imports ++ [e] } s' ho.2 (seOkL_append hi (by rw [seOkL, seOkL]; exact ⟨setF_se 12 d e ho.1 he, trivial⟩)) h
    · cases h
theorem addF_se {l : List Dat} {s s' : LibS} (h : addF l s = .ok s') : s'.imports = s.imports := by
  unfold addF at h
  split at h
  · cases h; rfl
  · cases h
theorem includeF_se (E : Env) : ∀ (a : List Dat) (s s' : LibS), includeF E a s = .ok s' → s'.imports = s.imports
  | [], s, s', h => by rw [includeF] at h; cases h; rfl
  | d :: r, s, s', h => by
    rw [includeF] at h
    cases he : nameF d with
    | no x => rw [he] at h; cases h
    | ok n =>
      rw [he] at h
      simp only [Er.bind] at h
      split at h
      · cases h
      · split at h
        · cases h
        · rename_i ds _
          cases ha : addF ds s with
          | no x => rw [ha] at h; cases h
          | ok s2 =>
            rw [ha] at h
            exact (includeF_se E r s2 s' h).trans (addF_se ha)
mutual
theorem declD_se (E : Env) : ∀ (d : Dat) (s s' : LibS), okD d → seOkL s.imports → declD E d s = .ok s' → seOkL s'.imports
  | ⟨k, n, nm, st, lb, ks⟩, s, s', ho, hi, h => by
    rw [declD] at h
    split at h
    · rename_i hk
      exact declK_se E ks s s' (okD_list ho hk).2 hi h
    · cases h
theorem declK_se (E : Env) : ∀ (l : List Dat) (s s' : LibS), okL l → seOkL s.imports → declK E l s = .ok s' → seOkL s'.imports
  | [], s, s', _, hi, h => by rw [declK] at h; cases h
  | x :: r, s, s', ho, hi, h => by
    rw [okL] at ho
    have hC := declC_se E r s s' ho.2 hi
    rw [declK] at h
    split at h
    · split at h
      · split at h
        · cases h
        · rw [exportsF_se r s s' h]; exact hi
      · split at h
        · exact importsF_se r s s' ho.2 hi h
        · split at h
          · rw [addF_se h]; exact hi
          · split at h
            · rw [includeF_se E r s s' h]; exact hi
            · split at h
              · exact hC h
              · cases h
    · cases h
theorem declL_se (E : Env) : ∀ (l : List Dat) (s s' : LibS), okL l → seOkL s.imports → declL E l s = .ok s' → seOkL s'.imports
  | [], s, s', _, hi, h => by rw [declL] at h; cases h; exact hi
  | d :: r, s, s', ho, hi, h => by
    rw [okL] at ho
    rw [declL] at h
    cases hd : declD E d s with
    | no x => rw [hd] at h; cases h
    | ok s2 =>
      rw [hd] at h
      exact declL_se E r s2 s' ho.2 (declD_se E d s s2 ho.1 hi hd) h
theorem declC_se (E : Env) : ∀ (l : List Dat) (s s' : LibS), okL l → seOkL s.imports → declC E l s = .ok s' → seOkL s'.imports
  | [], s, s', _, hi, h => by rw [declC] at h; cases h; exact hi
  | c :: r, s, s', ho, hi, h => by
    rw [okL] at ho
    rw [declC] at h
    exact declB_se E c _ (fun s s' hi h => declC_se E r s s' ho.2 hi h) s s' ho.1 hi h
theorem declB_se (E : Env) : ∀ (d : Dat) (k : LibS → Er LibS) (hk : ∀ s s', seOkL s.imports → k s = .ok s' → seOkL s'.imports) (s s' : LibS), okD d → seOkL s.imports → declB E d k s = .ok s' → seOkL s'.imports
  | ⟨k0, n, nm, st, lb, ks⟩, k, hk, s, s', ho, hi, h => by
    rw [declB] at h
    split at h
    · rename_i h4
      exact declT_se E ks k hk s s' (okD_list ho h4).2 hi h
    · cases h
theorem declT_se (E : Env) : ∀ (l : List Dat) (k : LibS → Er LibS) (hk : ∀ s s', seOkL s.imports → k s = .ok s' → seOkL s'.imports) (s s' : LibS), okL l → seOkL s.imports → declT E l k s = .ok s' → seOkL s'.imports
  | [], k, hk, s, s', _, hi, h => by rw [declT] at h; cases h
  | x :: t, k, hk, s, s', ho, hi, h => by
    rw [okL] at ho
    have h1 := declL_se E t s s' ho.2 hi
    rw [declT] at h
    cases hc : clauseF E x with
    | no z => rw [hc] at h; cases h
    | ok b =>
      rw [hc] at h
      cases b with
      | true => exact h1 h
      | false => exact hk s s' hi h
end
theorem parseF_much (E : Env) (d : Dat) (s : LibS) (h : parseF E d = .ok s) : Inv s ∧ seOkL s.imports := by
  unfold parseF at h
  split at h
  · rename_i h0
    rw [wrong_first] at h0
    have ho := okD_chk 40 d 0 (Nat.zero_le _) h0
    split at h
    · unfold allF at h
      cases hf : formF d with
      | no z => rw [hf] at h; cases h
      | ok f =>
        rw [hf] at h
        simp only [Er.bind] at h
        have hfo : okL f.2 := by
          unfold formF thingsF at hf
          split at hf
          · rename_i h4
            have := (okD_list ho h4.1).2
            simp only [Er.bind] at hf
            cases hd : d.kids with
            | nil => exact absurd hd h4.2
            | cons x r =>
              rw [hd] at hf this
              rw [okL] at this
              rw [headF] at hf
              cases hn : nameF x with
              | no z => rw [hn] at hf; cases hf
              | ok n => rw [hn] at hf; cases hf; exact this.2
          · cases hf
        split at h
        · cases hr : f.2 with
          | nil => rw [hr] at h; cases h
          | cons x r =>
            rw [hr] at h hfo
            rw [okL] at hfo
            simp only at h
            cases hc : calledF x with
            | no z => rw [hc] at h; cases h
            | ok n =>
              rw [hc] at h
              exact ⟨(declL_inv E r { lib0 with name := n } s ⟨by simp [lib0], by simp [lib0], by simp [lib0]⟩ h).1, declL_se E r { lib0 with name := n } s hfo.2 (by simp [lib0, seOkL]) h⟩
        · split at h
          · exact ⟨(declL_inv E f.2 lib0 s ⟨by simp [lib0], by simp [lib0], by simp [lib0]⟩ h).1, declL_se E f.2 lib0 s hfo (by simp [lib0, seOkL]) h⟩
          · cases h
    · cases h
  · cases h
end
section
set_option linter.unusedVariables false
set_option linter.unusedSimpArgs false
open Go.RowKit

theorem RowD.made (W : World) (es : List (Dat × Option Addr × Nat)) (hl : es.length ≤ maxLen) (h : ∀ e ∈ es, e.1.name.size ≤ maxLen ∧ e.1.kids.length ≤ e.2.2 ∧ ∃ f, Dn W f e.2.1 e.1.kids) :
    RowD W.heap.size (.slice (some ⟨W.heap.size, 0, none⟩) es.length es.length) es (W.alloc (.cells (flat es).toArray 26)) := by
  refine ⟨⟨flat_len es, Or.inr ⟨W.heap.size, es.length, _, rfl, Nat.le_refl _, World.alloc_heap_new W _, Nat.le_refl _, hl, by simp [flat_len], ?_⟩⟩, fun e he => ?_⟩
  · rw [← flat_len es]
    simp
  · obtain ⟨h1, h2, f, h3⟩ := h e he
    refine ⟨h1, h2, f, Dc.stay (fun k hk => Below.heap_alloc _ _ _ hk) (fun k hk => ⟨by simp; omega, fun e => ?_⟩) _ _ _ h3⟩
    have := Option.some.inj e
    simp only at this
    omega
theorem RowD.lieN {B : Nat} {v : Value} {es : List (Dat × Option Addr × Nat)} {w : World} (h : RowD B v es w) (hlen : es.length ≤ 9223372036854775807) : ∃ a cap f, v = .slice a (es.map (·.1)).length cap ∧ (es.map (·.1)).length ≤ cap ∧ Dn w f a (es.map (·.1)) := h.lie hlen
def ToldN (d : Dat) (w : World) (e : Ending) (w' : World) : Prop := Below w.heap.size w w' ∧ ∃ a cap f, e = .returned (dv d a cap) ∧ d.kids.length ≤ cap ∧ Dn w' f a d.kids
theorem ret25 {ts : Array Value} {W : World} {R : Nat} {d : Dat} {v : Value} (h : Nod R d v W) (h6 : ts[3]? = some (.pointer (some ⟨R, 0, none⟩))) :
    (results Tryz.f25 ts).run Tryz.prog W = .ok (.agg #[.int .i64 d.kind, .int .i64 d.n, .string d.name, .int .i64 d.stamp, .int .i64 d.lib, v]) W := by
  obtain ⟨q, q0, q1, q2, q3, q4, q5, qz⟩ := h
  simp [results, Tryz.results25, go_sem, h6, q0, q1, q2, q3, q4, q5]
set_option maxRecDepth 100000 in
set_option maxHeartbeats 3200000 in
theorem wcl_any (s : ByteArray) (p : Nat) (l : List Dat) (a : Option Addr) (cap F : Nat) (w : World) (hs : s.size ≤ maxLen) (hp : w.cell? ⟨p, 0, none⟩ = some (.string s)) (hd : Dn w F a l) (hl : l.length ≤ 10000000) :
    Calls Tryz.prog 25 #[.slice a l.length cap, .pointer (some ⟨p, 0, none⟩)] w (ToldN (liD (syD s :: l)) w) := by
  have hpl := World.block_lt_of_cell? w ⟨p, 0, none⟩ hp
  simp only at hpl
  have N0 : Hid (Nod w.heap.size ⟨0, 0, ⟨#[]⟩, 0, 0, []⟩ (.slice none 0 0) _) := Nod.made w ⟨0, 0, ⟨#[]⟩, 0, 0, []⟩ (.slice none 0 0)
  obtain ⟨W1, hW1⟩ : ∃ W1, W1 = w.alloc (.cells #[.int .i64 0, .int .i64 0, .string ⟨#[]⟩, .int .i64 0, .int .i64 0, .slice none 0 0] 26) := ⟨_, rfl⟩
  have hb1 : Below w.heap.size w W1 := by rw [hW1]; exact (Below.refl _ _).alloc (Nat.le_refl _) _
  have c1 : W1.cell? ⟨p, 0, none⟩ = some (.string s) := (hb1.cell (p := ⟨p, 0, none⟩) hpl).trans hp
  have hsz : W1.heap.size = w.heap.size + 1 := by rw [hW1]; simp
  have HW := hidd hW1.symm
  have N1 : Hid (Nod w.heap.size ⟨0, 0, ⟨#[]⟩, 0, 0, []⟩ (.slice none 0 0) W1) := by rw [hW1]; exact N0.out
  have HB1 : Hid (Below w.heap.size w W1 ∧ W1.heap.size = w.heap.size + 1) := ⟨hb1, hsz⟩
  have HD := hidd hd
  have HL := hidd hl
  have SY : Hid (∀ W, Calls Tryz.prog 21 #[.string s] W fun e w' => e = .returned (dv (syD s) none 0) ∧ Below W.heap.size W w') := fun W => Sym_any s W
  obtain ⟨d, hdd⟩ : ∃ d, d = syD s := ⟨_, rfl⟩
  have HK : Hid (d.kids = [] ∧ d.name.size ≤ maxLen) := by rw [hdd]; exact ⟨rfl, hs⟩
  rw [← hdd] at SY ⊢
  obtain ⟨n, hn⟩ : ∃ n, n = l.length := ⟨_, rfl⟩
  rw [← hn] at ⊢
  have HN := hidd hn
  clear hpl hp hd hl N0 hW1 hb1 hsz hdd hs hn
  unfold dv at SY
  go_enter Tryz.func25, Tryz.ntmps25
  go_upto_region 1 with fail
  rw [HW.out]
  clear HW
  go_wp2_with fail
  refine (SY.out W1).mono ?_
  rintro e w2 ⟨rfl, hb2⟩
  have HR := hidd (RowD.made w2 [(d, none, 0)] (by simp [maxLen]) (by
    intro e he
    simp at he
    subst he
    exact ⟨HK.out.2, by simp [HK.out.1], 0, HK.out.1⟩))
  have HB2 : Hid (Below w.heap.size w w2 ∧ Below W1.heap.size W1 w2) := ⟨HB1.out.1.trans (hb2.mono HB1.out.1.size), hb2⟩
  have HB3 : Hid (Below w.heap.size w (w2.alloc (.cells #[.int .i64 d.kind, .int .i64 d.n, .string d.name, .int .i64 d.stamp, .int .i64 d.lib, .slice none d.kids.length 0] 26)) ∧ Below w2.heap.size w2 (w2.alloc (.cells #[.int .i64 d.kind, .int .i64 d.n, .string d.name, .int .i64 d.stamp, .int .i64 d.lib, .slice none d.kids.length 0] 26))) := ⟨HB2.out.1.alloc HB2.out.1.size _, (Below.refl _ _).alloc (Nat.le_refl _) _⟩
  clear hb2 c1
  go_wp2_with (at_builtin; refine wpList_rowD rfl _ _ rfl (B := w2.heap.size) (v := .slice (some ⟨w2.heap.size, 0, none⟩) 1 1) (es := [(d, none, 0)]) (by exact HR.out) (W0 := w) (F := F) (a := a) (l := l) (cap := cap) rfl (by rw [← HN.out]; rfl) HD.out HB3.out.1 HB2.out.1.size HB3.out.2.size (by have := HL.out; simp; omega) ?_)
  intro v' w4 fs hfs hr4 hb4 hkf
  obtain ⟨va, vc, vf, hva, hvc, hdd⟩ := hr4.lieG (by have h1 := congrArg List.length hfs; have h2 := HL.out; rw [List.length_map] at h1; simp; omega) (fun b => b < w4.heap.size ∧ b ≠ w.heap.size) (fun g hg => by
    have h1 := hr4.own.lt g hg
    have h2 := HB1.out.2
    have h3 := HB2.out.2.size
    exact ⟨h1.2, by omega⟩) (fun e he => by
    rcases List.mem_cons.1 he with rfl | he
    · exact ⟨0, HK.out.1⟩
    · obtain ⟨f, hf⟩ := hkf e.1 e.2.1 e.2.2 he
      have h3 := HB2.out.1.size
      have h4 := HB3.out.2.size
      have h5 := hb4.size
      exact ⟨f, Dc.stay (fun _ _ => rfl) (fun k hk => ⟨by omega, by omega⟩) f _ _ hf⟩)
  have hmp : List.map (fun x : Dat × Option Addr × Nat => x.1) ((d, none, 0) :: fs) = d :: l := by simp [hfs]
  rw [hmp] at hva hvc hdd
  subst hva
  have HB4 : Hid (Below w.heap.size w w4 ∧ Below W1.heap.size W1 w4) := by
    have h2 : Below W1.heap.size W1 w4 := HB2.out.2.trans ((HB3.out.2.trans hb4).mono HB2.out.2.size)
    exact ⟨HB1.out.1.trans (h2.mono HB1.out.1.size), h2⟩
  have LI := hidd (List_any (d :: l) va vc w4)
  have HQ : Hid ((d :: l).length ≤ vc ∧ Dc (fun b => b < w4.heap.size ∧ b ≠ w.heap.size) w4 vf va (d :: l)) := ⟨hvc, hdd⟩
  clear hr4 hkf hb4 hfs hvc hdd hmp HR HB3 HB2 SY
  unfold dv at LI
  obtain ⟨m, hm⟩ : ∃ m, m = (d :: l).length := ⟨_, rfl⟩
  rw [← hm] at LI ⊢
  have HM := hidd hm
  clear hm
  go_wp2_with fail
  refine LI.out.mono ?_
  rintro e w5 ⟨rfl, hb5⟩
  have N5 : Nod w.heap.size ⟨0, 0, ⟨#[]⟩, 0, 0, []⟩ (.slice none 0 0) w5 := (N1.out.after HB4.out.2).after (by exact hb5)
  have HB5 : Hid (Below w.heap.size w w5 ∧ Below w4.heap.size w4 w5) := ⟨HB4.out.1.trans (hb5.mono HB4.out.1.size), hb5⟩
  have NH := hidd N5
  have HX : Hid (w.heap.size < w4.heap.size) := by have := HB4.out.2.size; have := HB1.out.2; show _ < _; omega
  obtain ⟨q, q0, q1, q2, q3, q4, q5, qz⟩ := N5
  simp only at q0 q1 q2 q3 q4 q5
  clear hb5 LI
  go_wp2_with fail
  refine bodyPost_ret (ret25 (NH.out.store (liD (d :: l)) (.slice va (d :: l).length vc)) rfl) rfl ?_
  have hh := six_heap w5 w.heap.size (.int .i64 4) (.int .i64 0) (.string ⟨#[]⟩) (.int .i64 0) (.int .i64 0) (.slice va (d :: l).length vc)
  refine ⟨?_, va, vc, vf, rfl, HQ.out.1, ?_⟩
  · exact below_sixN HB5.out.1 (Nat.le_refl _) _ _ _ _ _ _
  · refine Dc.stay (fun k hk => ?_) (fun k hk => ?_) vf _ _ HQ.out.2
    · exact (hh.1 k hk.2).trans (HB5.out.2.block k hk.1)
    · show k < _
      have := HB5.out.2.size
      exact hh.2.symm ▸ Nat.lt_of_lt_of_le hk.1 this
end
end Go.Proofs.YtonafbennobgdaaGreatDoor
