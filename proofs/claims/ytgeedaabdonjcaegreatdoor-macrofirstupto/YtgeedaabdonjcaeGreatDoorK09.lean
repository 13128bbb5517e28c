/- Package rule set: the variables of a pattern. Package rule set: does a thing of a template have a variable that stands for many? -/
import Derived.Test.YtgeedaabdonjcaeGreatDoorK08
namespace Go.Proofs.YtgeedaabdonjcaeGreatDoor
section
set_option linter.unusedVariables false
set_option linter.unusedSimpArgs false
open Go.RowKit Go.Maps Go.WideMaps

theorem LitM.keep {lb vb : Nat} {lits : List ByteArray} {w w' : World} (h : LitM lb lits w) (hk : Keep vb w w') (hne : lb ≠ vb) : LitM lb lits w' :=
  h.kept (hk.block lb h.lt (by simpa using hne))
theorem LitM.alloc {lb : Nat} {lits : List ByteArray} {w : World} (h : LitM lb lits w) (o : Obj) : LitM lb lits (w.alloc o) := h.below ((Below.refl _ _).alloc (Nat.le_refl _) _)
theorem MapN.alloc {b n : Nat} {f : ByteArray → Nat} {w : World} (h : MapN b n f w) (o : Obj) : MapN b n f (w.alloc o) := h.below ((Below.refl _ _).alloc (Nat.le_refl _) _)

/-- What is promised of what puts variables in. -/
def ToldV (vb n : Nat) (r : Int × (ByteArray → Nat)) (w : World) (e : Ending) (w' : World) : Prop :=
  e = .returned (.int .i64 r.1) ∧ Keep vb w w' ∧ (r.1 = 0 → MapN vb n r.2 w')

set_option maxRecDepth 100000 in
set_option maxHeartbeats 1600000 in
theorem vthing_step (lits : List ByteArray) (B g : Nat) (d : Dat) (a : Option Addr) (cap vb lb n s : Nat) (v : ByteArray → Nat) (w : World) (hl : Lies B w g a d.kids) (hs : d.name.size ≤ maxLen) (hB : B ≤ vb) (hL : LitM lb lits w) (hne : lb ≠ vb) (hM : MapN vb n v w) (hn : n + sizeD d ≤ 2000) (h12 : s = 1 ∨ s = 2)
    (ih : ∀ (w : World), Lies B w g a d.kids → LitM lb lits w → MapN vb n v w → n + sizeL d.kids ≤ 2000 → Calls Tryz.prog 57 #[.map (some vb), .map (some lb), .slice a d.kids.length cap, .int .i64 (s : Int)] w (ToldV vb (n + sizeL d.kids) (vlist lits d.kids true s v) w)) :
    Calls Tryz.prog 85 #[.map (some vb), .map (some lb), dv d a cap, .int .i64 (s : Int)] w (ToldV vb (n + sizeD d) (vthing lits d s v) w) := by
  have HH : Hid (Lies B w g a d.kids ∧ LitM lb lits w ∧ MapN vb n v w) := ⟨hl, hL, hM⟩
  have lv := hM.lt
  clear hl hL hM
  by_cases hk : d.kind = 4
  · obtain ⟨k, n', nm, st, lbb, ks⟩ := d
    simp only at hk hs HH ih
    subst hk
    have e1 : vthing lits ⟨4, n', nm, st, lbb, ks⟩ s v = vlist lits ks true s v := by rw [vthing, if_pos rfl]
    have e2 : sizeD ⟨4, n', nm, st, lbb, ks⟩ = 1 + sizeL ks := by rw [sizeD, if_pos rfl]
    rw [e2] at hn ⊢
    rw [e1]
    have IH : Hid (∀ (w : World), Lies B w g a ks → LitM lb lits w → MapN vb n v w → n + sizeL ks ≤ 2000 → Calls Tryz.prog 57 #[.map (some vb), .map (some lb), .slice a ks.length cap, .int .i64 (s : Int)] w (ToldV vb (n + sizeL ks) (vlist lits ks true s v) w)) := ih
    clear ih e1 e2
    unfold dv
    simp only
    generalize vlist lits ks true s v = r at IH ⊢
    go_enter Tryz.func85, Tryz.ntmps85
    go_wp2_with fail
    refine (IH.out _ (HH.out.1.below ((Below.refl _ _).alloc (by omega) _)) (HH.out.2.1.alloc _) (HH.out.2.2.alloc _) (by omega)).mono ?_
    rintro e w1 ⟨rfl, hk1, hm1⟩
    have HR : Hid (Keep vb w w1 ∧ (r.1 = 0 → MapN vb (n + (1 + sizeL ks)) r.2 w1)) := ⟨((Keep.refl _ _).alloc _).trans hk1, fun h => (hm1 h).mono (by omega)⟩
    clear hk1 hm1 IH
    go_wp2_with fail
    go_ret
    exact ⟨rfl, HR.out.1, HR.out.2⟩
  · have hk' : (d.kind == 4) = false := by simpa using hk
    have IV : Hid (∀ w, LitM lb lits w → Calls Tryz.prog 111 #[.map (some lb), dv d a cap] w fun e w' => e = .returned (.bool (varK lits d.kind d.name)) ∧ Below w.heap.size w w') := fun w h => isVariable_any lb lits d a cap w h hs
    have e1 : vthing lits d s v = if varK lits d.kind d.name then (if v d.name = 0 then (0, putV v d.name s) else (7, v)) else (0, v) := by
      obtain ⟨k, n', nm, st, lbb, ks⟩ := d
      rw [vthing, if_neg hk]
    have e2 : sizeD d = 1 := by
      obtain ⟨k, n', nm, st, lbb, ks⟩ := d
      rw [sizeD, if_neg hk]
    rw [e2] at hn ⊢
    rw [e1]
    obtain ⟨k, n', nm, st, lbb, ks⟩ := d
    unfold dv at IV ⊢
    simp only at hk' hs HH IV ⊢
    clear ih hk e1 e2
    cases hv : varK lits k nm with
    | false =>
      rw [hv] at IV
      simp only [Bool.false_eq_true, if_false]
      clear hv
      go_enter Tryz.func85, Tryz.ntmps85
      go_wp2_with fail
      refine (IV.out _ (HH.out.2.1.alloc _)).mono ?_
      rintro e w1 ⟨rfl, hb1⟩
      have HR : Hid (Keep vb w w1 ∧ MapN vb (n + 1) v w1) := ⟨((Keep.refl _ _).alloc _).below hb1, ((HH.out.2.2.alloc _).below hb1).mono (by omega)⟩
      clear hb1 IV
      go_wp2_with fail
      go_ret
      exact ⟨rfl, HR.out.1, fun _ => HR.out.2⟩
    | true =>
      rw [hv] at IV
      simp only [if_true]
      clear hv
      have hnm : n < maxLen := by unfold maxLen; omega
      by_cases hz : v nm = 0
      · rw [if_pos hz]
        go_enter Tryz.func85, Tryz.ntmps85
        go_wp2_with fail
        refine (IV.out _ (HH.out.2.1.alloc _)).mono ?_
        rintro e w1 ⟨rfl, hb1⟩
        have q2 : w1.cell? ⟨w.heap.size, 2, none⟩ = some (.string nm) := box_cell hb1 rfl 2
        have HR : Hid (Keep vb w w1 ∧ MapN vb n v w1) := ⟨((Keep.refl _ _).alloc _).below hb1, (HH.out.2.2.alloc _).below hb1⟩
        have hr0 : (Instr.lookup 74 (.map (some vb)) (.string nm) false).run Tryz.prog w1 = .ok (.int .i64 0) w1 := by
          have hr := HR.out.2.run (t := 74) Tryz.underlying74 nm hs
          rw [hz] at hr
          exact hr
        clear hz hb1 IV
        go_wp2_with (at_mapUpdate; refine wpList_putN rfl _ _ _ 74 rfl Tryz.underlying74 rfl HR.out.2 hnm nm rfl hs s rfl (by omega) ?_)
        intro w2 hm2 hg2
        have HR2 : Hid (Keep vb w w2 ∧ MapN vb (n + 1) (putV v nm s) w2) := ⟨HR.out.1.trans hg2, hm2⟩
        clear hm2 hg2 hr0 q2
        go_wp2_with fail
        go_ret
        exact ⟨rfl, HR2.out.1, fun _ => HR2.out.2⟩
      · rw [if_neg hz]
        go_enter Tryz.func85, Tryz.ntmps85
        go_wp2_with fail
        refine (IV.out _ (HH.out.2.1.alloc _)).mono ?_
        rintro e w1 ⟨rfl, hb1⟩
        have q2 : w1.cell? ⟨w.heap.size, 2, none⟩ = some (.string nm) := box_cell hb1 rfl 2
        have HR : Hid (Keep vb w w1 ∧ MapN vb n v w1) := ⟨((Keep.refl _ _).alloc _).below hb1, (HH.out.2.2.alloc _).below hb1⟩
        have hr := HR.out.2.run (t := 74) Tryz.underlying74 nm hs
        generalize v nm = c at hr hz
        have hz' : ((c : Int) != 0) = true := by simpa using hz
        clear hz hb1 IV
        go_wp2_with fail
        go_ret
        exact ⟨rfl, HR.out.1, fun h => absurd h (by simp)⟩

theorem drop_cons' {l : List Dat} {j : Nat} {d : Dat} (h : l[j]? = some d) : l.drop j = d :: l.drop (j + 1) := by
  obtain ⟨hi, e⟩ := List.getElem?_eq_some_iff.1 h
  rw [List.drop_eq_getElem_cons hi, e]
theorem vlist_at {lits : List ByteArray} {l : List Dat} {j : Nat} {d : Dat} (h : l[j]? = some d) (first : Bool) (s : Nat) (v : ByteArray → Nat) : vlist lits (l.drop j) first s v =
    if isDots d then (if first || decide (j + 1 < l.length) then (2, v) else (0, v))
    else if headDots (l.drop (j + 1)) && decide (s = 2) then (2, v)
    else if (vthing lits d (if headDots (l.drop (j + 1)) then 2 else s) v).1 = 0 then vlist lits (l.drop (j + 1)) false s (vthing lits d (if headDots (l.drop (j + 1)) then 2 else s) v).2
    else vthing lits d (if headDots (l.drop (j + 1)) then 2 else s) v := by
  rw [drop_cons' h, vlist]
  have e : (!(l.drop (j + 1)).isEmpty) = decide (j + 1 < l.length) := by
    rw [Bool.eq_iff_iff]
    simp
  rw [e]

theorem Lies.keep {B vb g : Nat} {a : Option Addr} {ds : List Dat} {w w' : World} (h : Lies B w g a ds) (hk : Keep vb w w') (hB : B ≤ vb) (hv : vb < w.heap.size) : Lies B w' g a ds := h.below (hk.toBelow hB (by omega))

set_option maxRecDepth 100000 in
set_option maxHeartbeats 3200000 in
theorem vlist_step (lits : List ByteArray) (B g : Nat) (l : List Dat) (a : Option Addr) (cap vb lb n s : Nat) (v : ByteArray → Nat) (w : World) (hl : Lies B w (g + 1) a l) (hB : B ≤ vb) (hL : LitM lb lits w) (hne : lb ≠ vb) (hM : MapN vb n v w) (hn : n + sizeL l ≤ 2000) (h12 : s = 1 ∨ s = 2)
    (ih : ∀ (d : Dat), d ∈ l → ∀ (a : Option Addr) (cap n s : Nat) (v : ByteArray → Nat) (w : World), Lies B w g a d.kids → d.name.size ≤ maxLen → LitM lb lits w → MapN vb n v w → n + sizeD d ≤ 2000 → s = 1 ∨ s = 2 → Calls Tryz.prog 85 #[.map (some vb), .map (some lb), dv d a cap, .int .i64 (s : Int)] w (ToldV vb (n + sizeD d) (vthing lits d s v) w)) :
    Calls Tryz.prog 57 #[.map (some vb), .map (some lb), .slice a l.length cap, .int .i64 (s : Int)] w (ToldV vb (n + sizeL l) (vlist lits l true s v) w) := by
  have hlen := hl.len
  have HL : Hid (Lies B w (g + 1) a l ∧ LitM lb lits w ∧ MapN vb n v w) := ⟨hl, hL, hM⟩
  have lv := hM.lt
  have IH : Hid (∀ (d : Dat), d ∈ l → ∀ (a : Option Addr) (cap n s : Nat) (v : ByteArray → Nat) (w : World), Lies B w g a d.kids → d.name.size ≤ maxLen → LitM lb lits w → MapN vb n v w → n + sizeD d ≤ 2000 → s = 1 ∨ s = 2 → Calls Tryz.prog 85 #[.map (some vb), .map (some lb), dv d a cap, .int .i64 (s : Int)] w (ToldV vb (n + sizeD d) (vthing lits d s v) w)) := ih
  clear hl hL hM ih
  go_enter Tryz.func57, Tryz.ntmps57
  go_wp2_with fail
  go_loopw [15] (fun i wr => ∃ (j : Nat) (vj : ByteArray → Nat), j ≤ l.length ∧ i = .int .i64 j ∧ Keep vb w wr ∧ MapN vb (n + sizeL (l.take j)) vj wr ∧ vlist lits l true s v = vlist lits (l.drop j) (decide (j = 0)) s vj) (fun i _ => l.length - (intOf i).toNat)
  case atStart => exact ⟨0, v, Nat.zero_le _, rfl, Keep.refl _ _, by simpa [sizeL] using HL.out.2.2, rfl⟩
  case round =>
    obtain ⟨j, vj, hj, rfl, hkr, hmr, he⟩ := hrel
    have HR : Hid (Keep vb w wr ∧ MapN vb (n + sizeL (l.take j)) vj wr ∧ vlist lits l true s v = vlist lits (l.drop j) (decide (j = 0)) s vj) := ⟨hkr, hmr, he⟩
    have lr := hmr.lt
    clear hkr hmr he
    by_cases hlt : j < l.length
    · obtain ⟨d, hd⟩ : ∃ d, l[j]? = some d := ⟨l[j], List.getElem?_eq_getElem hlt⟩
      have hne0 : l ≠ [] := by intro e; rw [e] at hlt; simp at hlt
      have hLr : Lies B wr (g + 1) a l := HL.out.1.keep HR.out.1 hB lv
      obtain ⟨g', b, o, hg, ha, hbB, hall⟩ := hLr.at hne0
      subst ha
      obtain ⟨a', cap', k0, k1, k2, k3, k4, k5, hkn, hkk⟩ := hall j d hd
      have hg' : g' = g := by omega
      subst hg'
      have HA : Hid (Lies B wr g' a' d.kids ∧ d.name.size ≤ maxLen ∧ LitM lb lits wr ∧ Lies B wr (g' + 1) (some ⟨b, o, none⟩) l) := ⟨hkk, hkn, HL.out.2.1.keep HR.out.1 hne, hLr⟩
      have HV : Hid (vlist lits l true s v = _) := HR.out.2.2.trans (vlist_at hd (decide (j = 0)) s vj)
      have HZ : Hid (sizeL (l.take (j + 1)) = sizeL (l.take j) + sizeD d ∧ sizeL (l.take (j + 1)) ≤ sizeL l ∧ d ∈ l) := ⟨sizeL_take hd, sizeL_part _ _, List.mem_of_getElem? hd⟩
      clear hd hne0 hLr hall hkk hkn hg
      have ID : Hid (∀ w, Calls Tryz.prog 61 #[dv d a' cap'] w fun e w' => e = .returned (.bool (isDots d)) ∧ Below w.heap.size w w') := fun w => isDots_any d a' cap' w
      have DB : Hid (∀ w, Lies B w (g' + 1) (some ⟨b, o, none⟩) l → Calls Tryz.prog 84 #[.slice (some ⟨b, o, none⟩) l.length cap, .int .i64 (j : Int)] w fun e w' => e = .returned (.bool (headDots (l.drop (j + 1)))) ∧ Below w.heap.size w w') := fun w h => dotsBehind_any B (g' + 1) l _ cap j w h hlt
      have BX : Hid (∀ (w1 : World), Below (wr.heap.size + 1) (wr.alloc (.cells #[.int .i64 d.kind, .int .i64 d.n, .string d.name, .int .i64 d.stamp, .int .i64 d.lib, .slice a' d.kids.length cap'] 28)) w1 → ∀ q, w1.cell? ⟨wr.heap.size, q, none⟩ = (#[.int .i64 d.kind, .int .i64 d.n, .string d.name, .int .i64 d.stamp, .int .i64 d.lib, .slice a' d.kids.length cap'] : Array Value)[q]?) := fun w1 h q => (h.cell (p := ⟨wr.heap.size, q, none⟩) (by simp)).trans (World.cell?_alloc_mark _ _ _ (0, 0) q)
      cases hd : isDots d with
      | true =>
        rw [hd] at ID HV
        simp only [if_true] at HV
        by_cases j0 : j = 0
        · have j0' : ((j : Int) == 0) = true := by simp; omega
          simp only [decide_eq_true j0, Bool.true_or, if_true] at HV
          clear hd DB j0
          go_wp2_with fail
          refine (ID.out _).mono ?_
          rintro e w1 ⟨rfl, hb1⟩
          have HK : Hid (Keep vb w w1) := (HR.out.1.alloc _).below hb1
          clear hb1
          go_wp2_with fail
          go_ret
          rw [HV.out]
          exact ⟨rfl, HK.out, fun h => absurd h (by simp)⟩
        · have j0' : ((j : Int) == 0) = false := by simp; omega
          by_cases jl : j + 1 < l.length
          · have jl' : decide ((j : Int) < (l.length : Int) - 1) = true := by simp; omega
            simp only [decide_eq_true jl, Bool.or_true, if_true] at HV
            clear hd DB
            go_wp2_with fail
            refine (ID.out _).mono ?_
            rintro e w1 ⟨rfl, hb1⟩
            have HK : Hid (Keep vb w w1) := (HR.out.1.alloc _).below hb1
            clear hb1
            go_wp2_with fail
            go_ret
            rw [HV.out]
            exact ⟨rfl, HK.out, fun h => absurd h (by simp)⟩
          · have jl' : decide ((j : Int) < (l.length : Int) - 1) = false := by simp; omega
            simp only [decide_eq_false jl, decide_eq_false j0, Bool.or_false, Bool.false_eq_true, if_false] at HV
            clear hd DB
            go_wp2_with fail
            refine (ID.out _).mono ?_
            rintro e w1 ⟨rfl, hb1⟩
            have HK : Hid (Keep vb w w1 ∧ MapN vb (n + sizeL (l.take (j + 1))) vj w1) := ⟨(HR.out.1.alloc _).below hb1, ((HR.out.2.1.alloc _).below hb1).mono (by have := HZ.out.1; omega)⟩
            have HE : Hid (vlist lits l true s v = vlist lits (l.drop (j + 1)) (decide (j + 1 = 0)) s vj) := by
              show vlist lits l true s v = vlist lits (l.drop (j + 1)) (decide (j + 1 = 0)) s vj
              rw [HV.out, List.drop_eq_nil_of_le (by omega), vlist]
            clear hb1
            go_wp2_with fail
            go_roundw
            case rel => exact ⟨j + 1, vj, by omega, by go_num, HK.out.1, HK.out.2, HE.out⟩
            case measure => simp [intOf]; omega
      | false =>
        rw [hd] at ID HV
        simp only [Bool.false_eq_true, if_false] at HV
        cases hh : headDots (l.drop (j + 1)) with
        | true =>
          rw [hh] at DB HV
          simp only [Bool.true_and, if_true] at HV
          by_cases s2 : s = 2
          · subst s2
            simp only [decide_true, if_true] at HV
            clear hd hh
            go_wp2_with fail
            refine (ID.out _).mono ?_
            rintro e w1 ⟨rfl, hb1⟩
            have HK : Hid (Keep vb w w1 ∧ Lies B w1 (g' + 1) (some ⟨b, o, none⟩) l) := ⟨(HR.out.1.alloc _).below hb1, HA.out.2.2.2.keep (((Keep.refl vb _).alloc _).below hb1) hB lr⟩
            clear hb1
            go_wp2_with fail
            refine (DB.out _ HK.out.2).mono ?_
            rintro e w2 ⟨rfl, hb2⟩
            have HK2 : Hid (Keep vb w w2) := HK.out.1.below hb2
            clear hb2
            go_wp2_with fail
            go_ret
            rw [HV.out]
            exact ⟨rfl, HK2.out, fun h => absurd h (by simp)⟩
          · have s2' : ((s : Int) == 2) = false := by simp; omega
            simp only [decide_eq_false s2, Bool.false_eq_true, if_false] at HV
            clear hd hh
            go_wp2_with fail
            refine (ID.out _).mono ?_
            rintro e w1 ⟨rfl, hb1⟩
            have HK : Hid (Keep vb w w1 ∧ Lies B w1 (g' + 1) (some ⟨b, o, none⟩) l ∧ Below (wr.heap.size + 1) (wr.alloc (.cells #[.int .i64 d.kind, .int .i64 d.n, .string d.name, .int .i64 d.stamp, .int .i64 d.lib, .slice a' d.kids.length cap'] 28)) w1) := ⟨(HR.out.1.alloc _).below hb1, HA.out.2.2.2.keep (((Keep.refl vb _).alloc _).below hb1) hB lr, hb1.mono (by simp)⟩
            have hz1 : wr.heap.size + 1 ≤ w1.heap.size := by have := hb1.size; simp at this; exact this
            clear hb1
            go_wp2_with fail
            refine (DB.out _ HK.out.2.1).mono ?_
            rintro e w2 ⟨rfl, hb2⟩
            have HB2 : Hid (Below (wr.heap.size + 1) (wr.alloc (.cells #[.int .i64 d.kind, .int .i64 d.n, .string d.name, .int .i64 d.stamp, .int .i64 d.lib, .slice a' d.kids.length cap'] 28)) w2) := HK.out.2.2.trans (hb2.mono hz1)
            have HK2 : Hid (Keep vb wr w2) := ((Keep.refl vb wr).alloc _).trans ⟨HB2.out.os, HB2.out.tape, HB2.out.output, HB2.out.size, fun i hi _ => HB2.out.block i (by simpa using hi)⟩
            have q0 : w2.cell? ⟨wr.heap.size, 0, none⟩ = some (.int .i64 d.kind) := BX.out w2 HB2.out 0
            have q1 : w2.cell? ⟨wr.heap.size, 1, none⟩ = some (.int .i64 d.n) := BX.out w2 HB2.out 1
            have q2 : w2.cell? ⟨wr.heap.size, 2, none⟩ = some (.string d.name) := BX.out w2 HB2.out 2
            have q3 : w2.cell? ⟨wr.heap.size, 3, none⟩ = some (.int .i64 d.stamp) := BX.out w2 HB2.out 3
            have q4 : w2.cell? ⟨wr.heap.size, 4, none⟩ = some (.int .i64 d.lib) := BX.out w2 HB2.out 4
            have q5 : w2.cell? ⟨wr.heap.size, 5, none⟩ = some (.slice a' d.kids.length cap') := BX.out w2 HB2.out 5
            clear hb2
            go_wp2_with fail
            refine (IH.out d HZ.out.2.2 a' cap' (n + sizeL (l.take j)) 2 vj _ (HA.out.1.keep HK2.out hB lr) HA.out.2.1 (HA.out.2.2.1.keep HK2.out hne) (HR.out.2.1.kept (HB2.out.block vb (by omega) |>.trans (Below.heap_alloc _ _ _ lr))) (by have := HZ.out; omega) (Or.inr rfl)).mono ?_
            rintro e w3 ⟨rfl, hk3, hm3⟩
            have HK3 : Hid (Keep vb w w3 ∧ ((vthing lits d 2 vj).1 = 0 → MapN vb (n + sizeL (l.take (j + 1))) (vthing lits d 2 vj).2 w3)) := ⟨(HR.out.1.trans HK2.out).trans hk3, fun h => (hm3 h).mono (by have := HZ.out.1; omega)⟩
            clear hk3 hm3 q0 q1 q2 q3 q4 q5
            generalize vthing lits d 2 vj = y at HK3 HV ⊢
            obtain ⟨y1, y2⟩ := y
            simp only at HK3 HV ⊢
            by_cases y0 : y1 = 0
            · subst y0
              simp only [if_true] at HV
              go_wp2_with fail
              go_roundw
              case rel => exact ⟨j + 1, y2, by omega, by go_num, HK3.out.1, HK3.out.2 rfl, HV.out⟩
              case measure => simp [intOf]; omega
            · rw [if_neg y0] at HV
              have y0' : (y1 != 0) = true := by simpa using y0
              go_wp2_with fail
              go_ret
              rw [HV.out]
              exact ⟨rfl, HK3.out.1, fun h => absurd h y0⟩
        | false =>
          rw [hh] at DB HV
          simp only [Bool.false_and, Bool.false_eq_true, if_false] at HV
          clear hd hh
          go_wp2_with fail
          refine (ID.out _).mono ?_
          rintro e w1 ⟨rfl, hb1⟩
          have HK : Hid (Keep vb w w1 ∧ Lies B w1 (g' + 1) (some ⟨b, o, none⟩) l ∧ Below (wr.heap.size + 1) (wr.alloc (.cells #[.int .i64 d.kind, .int .i64 d.n, .string d.name, .int .i64 d.stamp, .int .i64 d.lib, .slice a' d.kids.length cap'] 28)) w1) := ⟨(HR.out.1.alloc _).below hb1, HA.out.2.2.2.keep (((Keep.refl vb _).alloc _).below hb1) hB lr, hb1.mono (by simp)⟩
          have hz1 : wr.heap.size + 1 ≤ w1.heap.size := by have := hb1.size; simp at this; exact this
          clear hb1
          go_wp2_with fail
          refine (DB.out _ HK.out.2.1).mono ?_
          rintro e w2 ⟨rfl, hb2⟩
          have HB2 : Hid (Below (wr.heap.size + 1) (wr.alloc (.cells #[.int .i64 d.kind, .int .i64 d.n, .string d.name, .int .i64 d.stamp, .int .i64 d.lib, .slice a' d.kids.length cap'] 28)) w2) := HK.out.2.2.trans (hb2.mono hz1)
          have HK2 : Hid (Keep vb wr w2) := ((Keep.refl vb wr).alloc _).trans ⟨HB2.out.os, HB2.out.tape, HB2.out.output, HB2.out.size, fun i hi _ => HB2.out.block i (by simpa using hi)⟩
          have q0 : w2.cell? ⟨wr.heap.size, 0, none⟩ = some (.int .i64 d.kind) := BX.out w2 HB2.out 0
          have q1 : w2.cell? ⟨wr.heap.size, 1, none⟩ = some (.int .i64 d.n) := BX.out w2 HB2.out 1
          have q2 : w2.cell? ⟨wr.heap.size, 2, none⟩ = some (.string d.name) := BX.out w2 HB2.out 2
          have q3 : w2.cell? ⟨wr.heap.size, 3, none⟩ = some (.int .i64 d.stamp) := BX.out w2 HB2.out 3
          have q4 : w2.cell? ⟨wr.heap.size, 4, none⟩ = some (.int .i64 d.lib) := BX.out w2 HB2.out 4
          have q5 : w2.cell? ⟨wr.heap.size, 5, none⟩ = some (.slice a' d.kids.length cap') := BX.out w2 HB2.out 5
          clear hb2
          go_wp2_with fail
          refine (IH.out d HZ.out.2.2 a' cap' (n + sizeL (l.take j)) s vj _ (HA.out.1.keep HK2.out hB lr) HA.out.2.1 (HA.out.2.2.1.keep HK2.out hne) (HR.out.2.1.kept (HB2.out.block vb (by omega) |>.trans (Below.heap_alloc _ _ _ lr))) (by have := HZ.out; omega) h12).mono ?_
          rintro e w3 ⟨rfl, hk3, hm3⟩
          have HK3 : Hid (Keep vb w w3 ∧ ((vthing lits d s vj).1 = 0 → MapN vb (n + sizeL (l.take (j + 1))) (vthing lits d s vj).2 w3)) := ⟨(HR.out.1.trans HK2.out).trans hk3, fun h => (hm3 h).mono (by have := HZ.out.1; omega)⟩
          clear hk3 hm3 q0 q1 q2 q3 q4 q5
          generalize vthing lits d s vj = y at HK3 HV ⊢
          obtain ⟨y1, y2⟩ := y
          simp only at HK3 HV ⊢
          by_cases y0 : y1 = 0
          · subst y0
            simp only [if_true] at HV
            go_wp2_with fail
            go_roundw
            case rel => exact ⟨j + 1, y2, by omega, by go_num, HK3.out.1, HK3.out.2 rfl, HV.out⟩
            case measure => simp [intOf]; omega
          · rw [if_neg y0] at HV
            have y0' : (y1 != 0) = true := by simpa using y0
            go_wp2_with fail
            go_ret
            rw [HV.out]
            exact ⟨rfl, HK3.out.1, fun h => absurd h y0⟩
    · obtain rfl : j = l.length := by omega
      have HF : Hid (vlist lits l true s v = (0, vj)) := by
        show vlist lits l true s v = (0, vj)
        rw [HR.out.2.2, List.drop_length, vlist]
      go_wp2_with fail
      go_ret
      rw [HF.out]
      refine ⟨rfl, HR.out.1, fun _ => ?_⟩
      have := HR.out.2.1
      rw [List.take_length] at this
      exact this

/-- THE VARIABLES OF A LIST OF A PATTERN. -/
theorem vlist_any (lits : List ByteArray) (B vb lb : Nat) (hB : B ≤ vb) (hne : lb ≠ vb) : ∀ (g : Nat) (l : List Dat) (a : Option Addr) (cap n s : Nat) (v : ByteArray → Nat) (w : World), Lies B w g a l → LitM lb lits w → MapN vb n v w → n + sizeL l ≤ 2000 → s = 1 ∨ s = 2 →
    Calls Tryz.prog 57 #[.map (some vb), .map (some lb), .slice a l.length cap, .int .i64 (s : Int)] w (ToldV vb (n + sizeL l) (vlist lits l true s v) w)
  | 0, l, a, cap, n, s, v, w, hl, hL, hM, hn, h12 => vlist_step lits B 0 l a cap vb lb n s v w (Lies.more 0 a _ hl) hB hL hne hM hn h12 fun d hd => by
    rw [show l = [] from hl] at hd
    cases hd
  | g + 1, l, a, cap, n, s, v, w, hl, hL, hM, hn, h12 => vlist_step lits B g l a cap vb lb n s v w hl hB hL hne hM hn h12 fun d hd a cap n s v w hl hs hL hM hn h12 =>
    vthing_step lits B g d a cap vb lb n s v w hl hs hB hL hne hM hn h12 fun w hl hL hM hn => vlist_any lits B vb lb hB hne g d.kids a cap n s v w hl hL hM hn h12
end
section
set_option linter.unusedVariables false
set_option linter.unusedSimpArgs false
open Go.RowKit Go.Maps Go.WideMaps

theorem hidd {p : Prop} (h : p) : Hid p := h

theorem manyL_any (v : ByteArray → Nat) : ∀ (l : List Dat), manyL v l = l.any (manyD v)
  | [] => by rw [manyL]; rfl
  | d :: r => by rw [manyL, manyL_any v r]; rfl

/-- What hasMany is asked of. -/
def AskM (B vb n g : Nat) (v : ByteArray → Nat) (l : List Dat) : Prop := ∀ (d : Dat), d ∈ l → ∀ (a : Option Addr) (cap : Nat) (w : World), B ≤ w.heap.size → Lies B w g a d.kids → d.name.size ≤ maxLen → MapN vb n v w →
    Calls Tryz.prog 93 #[.map (some vb), dv d a cap] w fun e w' => e = .returned (.bool (manyD v d)) ∧ Below w.heap.size w w'

set_option maxRecDepth 100000 in
set_option maxHeartbeats 1600000 in
theorem IndexFunc_any (B vb n g : Nat) (v : ByteArray → Nat) (l : List Dat) (a : Option Addr) (cap : Nat) (w : World) (hl : Lies B w (g + 1) a l) (hB : B ≤ w.heap.size) (hM : MapN vb n v w) (ih : AskM B vb n g v l) :
    Calls Tryz.prog 152 #[.slice a l.length cap, .func (.func 93) #[.map (some vb)] #[]] w fun e w' => Below w.heap.size w w' ∧ ∃ i : Int, e = .returned (.int .i64 i) ∧ decide (0 ≤ i) = l.any (manyD v) ∧ -1 ≤ i := by
  have hlen := hl.len
  have HL : Hid (Lies B w (g + 1) a l ∧ MapN vb n v w ∧ B ≤ w.heap.size) := ⟨hl, hM, hB⟩
  have IH : Hid (AskM B vb n g v l) := ih
  clear hl hM ih hB
  go_enter Tryz.func152, Tryz.ntmps152
  go_wp2_with fail
  go_loopw [8] (fun i wr => ∃ j : Nat, j ≤ l.length ∧ i = .int .i64 j ∧ Below w.heap.size w wr ∧ (l.take j).any (manyD v) = false) (fun i _ => l.length - (intOf i).toNat)
  case atStart => exact ⟨0, Nat.zero_le _, rfl, Below.refl _ _, rfl⟩
  case round =>
    obtain ⟨j, hj, rfl, hb, hn⟩ := hrel
    have HR : Hid (Below w.heap.size w wr ∧ (l.take j).any (manyD v) = false) := ⟨hb, hn⟩
    clear hb hn
    by_cases hlt : j < l.length
    · obtain ⟨d, hd⟩ : ∃ d, l[j]? = some d := ⟨l[j], List.getElem?_eq_getElem hlt⟩
      have hne0 : l ≠ [] := by intro e; rw [e] at hlt; simp at hlt
      have hLr : Lies B wr (g + 1) a l := HL.out.1.below (HR.out.1.mono HL.out.2.2)
      obtain ⟨g', b, o, hg, ha, hbB, hall⟩ := hLr.at hne0
      subst ha
      obtain ⟨a', cap', k0, k1, k2, k3, k4, k5, hkn, hkk⟩ := hall j d hd
      have hg' : g' = g := by omega
      subst hg'
      have HA : Hid (Lies B wr g' a' d.kids ∧ d.name.size ≤ maxLen ∧ MapN vb n v wr ∧ d ∈ l ∧ l.take (j + 1) = l.take j ++ [d]) := ⟨hkk, hkn, HL.out.2.1.below HR.out.1, List.mem_of_getElem? hd, take_at hd⟩
      clear hd hne0 hLr hall hkk hkn hg
      have hBr : B ≤ wr.heap.size := Nat.le_trans HL.out.2.2 HR.out.1.size
      go_wp2_with fail
      refine (IH.out d HA.out.2.2.2.1 a' cap' _ hBr HA.out.1 HA.out.2.1 HA.out.2.2.1).mono ?_
      rintro e w1 ⟨rfl, hb1⟩
      have HB1 : Hid (Below w.heap.size w w1) := HR.out.1.trans (hb1.mono HR.out.1.size)
      clear hb1
      cases hm : manyD v d with
      | true =>
        have HF : Hid (l.any (manyD v) = true) := by
          show l.any (manyD v) = true
          rw [List.any_eq_true]
          exact ⟨d, HA.out.2.2.2.1, hm⟩
        clear hm
        go_wp2_with fail
        go_ret
        exact ⟨HB1.out, j, rfl, by rw [HF.out]; simp, by omega⟩
      | false =>
        have HF : Hid ((l.take (j + 1)).any (manyD v) = false) := by
          show (l.take (j + 1)).any (manyD v) = false
          rw [HA.out.2.2.2.2, List.any_append, HR.out.2]
          simp [hm]
        clear hm
        go_wp2_with fail
        go_roundw
        case rel => exact ⟨j + 1, by omega, by go_num, HB1.out, HF.out⟩
        case measure => simp [intOf]; omega
    · obtain rfl : j = l.length := by omega
      go_wp2_with fail
      go_ret
      refine ⟨HR.out.1, -1, rfl, ?_, by omega⟩
      have := HR.out.2
      rw [List.take_length] at this
      rw [this]
      rfl

set_option maxHeartbeats 400000 in
theorem ContainsFunc_any (B vb n g : Nat) (v : ByteArray → Nat) (l : List Dat) (a : Option Addr) (cap : Nat) (w : World) (hl : Lies B w (g + 1) a l) (hB : B ≤ w.heap.size) (hM : MapN vb n v w) (ih : AskM B vb n g v l) :
    Calls Tryz.prog 118 #[.slice a l.length cap, .func (.func 93) #[.map (some vb)] #[]] w fun e w' => e = .returned (.bool (manyL v l)) ∧ Below w.heap.size w w' := by
  rw [manyL_any]
  have HI := hidd (IndexFunc_any B vb n g v l a cap w hl hB hM ih)
  clear hl hM ih hB
  generalize l.any (manyD v) = y at HI ⊢
  go_enter Tryz.func118, Tryz.ntmps118
  go_wp2_with fail
  refine HI.out.mono ?_
  rintro e w1 ⟨hb, i, rfl, hi, h1⟩
  have HB := hidd hb
  clear hb HI
  go_wp2_with fail
  go_ret
  refine ⟨?_, HB.out⟩
  rw [← hi]
  exact retB (by simp)

set_option maxRecDepth 100000 in
set_option maxHeartbeats 1600000 in
theorem hasMany_step (B vb n g : Nat) (v : ByteArray → Nat) (d : Dat) (a : Option Addr) (cap : Nat) (w : World) (hl : Lies B w (g + 1) a d.kids) (hs : d.name.size ≤ maxLen) (hB : B ≤ w.heap.size) (hM : MapN vb n v w) (ih : AskM B vb n g v d.kids) :
    Calls Tryz.prog 93 #[.map (some vb), dv d a cap] w fun e w' => e = .returned (.bool (manyD v d)) ∧ Below w.heap.size w w' := by
  have HH : Hid (Lies B w (g + 1) a d.kids ∧ MapN vb n v w) := ⟨hl, hM⟩
  clear hl hM
  by_cases h3 : d.kind = 3
  · obtain ⟨k, n', nm, st, lbb, ks⟩ := d
    simp only at h3 hs HH
    subst h3
    have e1 : manyD v ⟨3, n', nm, st, lbb, ks⟩ = decide (v nm = 2) := by rw [manyD, if_pos rfl]
    rw [e1]
    clear e1 ih
    have hr := ((HH.out.2.alloc (.cells #[.int .i64 3, .int .i64 n', .string nm, .int .i64 st, .int .i64 lbb, .slice a ks.length cap] 28)).run (t := 74) Tryz.underlying74 nm hs)
    unfold dv
    simp only
    generalize v nm = c at hr ⊢
    go_enter Tryz.func93, Tryz.ntmps93
    go_wp2_with fail
    go_ret
    exact ⟨retB (by rw [Bool.eq_iff_iff]; simp; omega), (Below.refl _ _).alloc (Nat.le_refl _) _⟩
  · by_cases h4 : d.kind = 4
    · have IH := hidd ih
      obtain ⟨k, n', nm, st, lbb, ks⟩ := d
      simp only at h4 hs HH IH
      subst h4
      have e1 : manyD v ⟨4, n', nm, st, lbb, ks⟩ = manyL v ks := by rw [manyD, if_neg (by decide), if_pos rfl]
      rw [e1]
      clear e1 ih h3
      have CF := hidd (ContainsFunc_any B vb n g v ks a cap (w.alloc (.cells #[.int .i64 4, .int .i64 n', .string nm, .int .i64 st, .int .i64 lbb, .slice a ks.length cap] 28)) (HH.out.1.below ((Below.refl _ _).alloc hB _)) (by simp; omega) (HH.out.2.alloc _) IH.out)
      clear IH
      unfold dv
      simp only
      generalize manyL v ks = y at CF ⊢
      go_enter Tryz.func93, Tryz.ntmps93
      go_wp2_with fail
      refine CF.out.mono ?_
      rintro e w1 ⟨rfl, hb⟩
      have HB : Hid (Below w.heap.size w w1) := ((Below.refl _ _).alloc (Nat.le_refl _) _).trans (hb.mono (by simp))
      clear hb CF
      go_wp2_with fail
      go_ret
      exact ⟨rfl, HB.out⟩
    · obtain ⟨k, n', nm, st, lbb, ks⟩ := d
      simp only at h3 h4 hs HH
      have e1 : manyD v ⟨k, n', nm, st, lbb, ks⟩ = false := by rw [manyD, if_neg h3, if_neg h4]
      rw [e1]
      have h3' : (k == 3) = false := by simpa using h3
      have h4' : (k == 4) = false := by simpa using h4
      clear e1 ih h3 h4
      unfold dv
      simp only
      go_enter Tryz.func93, Tryz.ntmps93
      go_wp2_with fail
      go_ret
      exact ⟨rfl, (Below.refl _ _).alloc (Nat.le_refl _) _⟩

theorem hasMany_any (B vb n : Nat) (v : ByteArray → Nat) : ∀ (g : Nat) (d : Dat) (a : Option Addr) (cap : Nat) (w : World), B ≤ w.heap.size → Lies B w g a d.kids → d.name.size ≤ maxLen → MapN vb n v w →
    Calls Tryz.prog 93 #[.map (some vb), dv d a cap] w fun e w' => e = .returned (.bool (manyD v d)) ∧ Below w.heap.size w w'
  | 0, d, a, cap, w, hB, hl, hs, hM => hasMany_step B vb n 0 v d a cap w (Lies.more 0 a _ hl) hs hB hM fun d' hd => by
    rw [show d.kids = [] from hl] at hd
    cases hd
  | g + 1, d, a, cap, w, hB, hl, hs, hM => hasMany_step B vb n g v d a cap w hl hs hB hM fun d' _ a cap w hB hl hs hM => hasMany_any B vb n v g d' a cap w hB hl hs hM
end
end Go.Proofs.YtgeedaabdonjcaeGreatDoor
