/- Package rule set: what comes of a thing of a template, and of a template. -/
import Derived.Test.YtgeedaabdonjcaeGreatDoorK29
namespace Go.Proofs.YtgeedaabdonjcaeGreatDoor
set_option linter.unusedVariables false
set_option linter.unusedSimpArgs false
open Go.RowKit

theorem symS_em {k : Int} {nm : ByteArray} (h : k ≠ 3) : symS k nm = emS := by unfold symS; rw [if_neg h]
theorem holdsB_list (n dp : Nat) (l : List Dat) : holdsB n dp ⟨4, 0, emS, 0, 0, l⟩ = holdsL (n + 1) (dp + 1) l := by
  unfold holdsB holdsL
  rw [sizeD, deepD, if_pos rfl, if_pos rfl]
  simp only [Nat.add_assoc]
theorem sizeD_leaf {d : Dat} (h : d.kind ≠ 4) : sizeD d = 1 ∧ deepD d = 1 := by
  obtain ⟨k, n, nm, st, lb, ks⟩ := d
  rw [sizeD, deepD, if_neg h, if_neg h]
  exact ⟨rfl, rfl⟩

/-- What is known of the variables where a rule fits. -/
structure Vok (v : ByteArray → Nat) (m : ByteArray → List Dat) : Prop where
  em : v emS = 0
  one : ∀ t, v t = 1 → ∃ x, (m t)[0]? = some x

/-- What is asked of a thing. -/
def ThOk (v : ByteArray → Nat) (m : ByteArray → List Dat) (d : Dat) (wi : Bool) (i : Nat) : Prop :=
  smD d ∧ sizeD d ≤ 2000 ∧ rightD v d wi = true ∧ (wi = true → ∀ c ∈ cntD v m d, i < c) ∧ (wi = false → fitsD v m d = true)

theorem ThOk.list {v : ByteArray → Nat} {m : ByteArray → List Dat} {n' st lb : Int} {nm : ByteArray} {ks : List Dat} {wi : Bool} {nth : Nat} (h : ThOk v m ⟨4, n', nm, st, lb, ks⟩ wi nth) (h2 : v (symS 4 nm) ≠ 2) :
    ∀ (d : Dat) (dt : Bool), (d, dt) ∈ things ks → ∀ (i : Nat), (if dt then i < (cntD v m d).headD 0 else i = nth) → ThOk v m d (dt || wi) i ∧ (dt = true → cntD v m d ≠ []) := by
  intro d dt hd i hi
  obtain ⟨h1, hz, hr, hw, hf⟩ := h
  have hmem := things_mem ks (d, dt) hd
  simp only at hmem
  rw [smD] at h1
  rw [sizeD, if_pos rfl] at hz
  have hzd := sizeL_mem ks d hmem
  rw [rightD, if_neg (by decide), if_pos rfl, rightL_things, List.all_eq_true] at hr
  have hr := hr (d, dt) hd
  cases dt with
  | true =>
    simp at hr
    obtain ⟨⟨r1, r2⟩, r3⟩ := hr
    rw [if_pos rfl] at hi
    refine ⟨⟨smL_mem ks (h1.2 rfl) d hmem, by omega, r3, fun _ c hc => ?_, fun h => by simp at h⟩, fun _ => cntD_some v m d r2⟩
    have hfit := hf r1
    rw [fitsD, if_pos rfl, fitsL_things, List.all_eq_true] at hfit
    have := hfit (d, true) hd
    simp at this
    rw [alikeB_iff.1 this c hc]
    exact hi
  | false =>
    simp at hr
    rw [if_neg (by simp)] at hi
    subst hi
    refine ⟨⟨smL_mem ks (h1.2 rfl) d hmem, by omega, by simpa using hr, fun hwi c hc => ?_, fun hwi => ?_⟩, fun h => by cases h⟩
    · refine hw (by simpa using hwi) c ?_
      rw [cntD, if_neg h2, if_pos rfl]
      exact cntL_mem v m ks d c hmem hc
    · have hfit := hf (by simpa using hwi)
      rw [fitsD, if_pos rfl, fitsL_things, List.all_eq_true] at hfit
      have := hfit (d, false) hd
      simpa using this

theorem growth_step (B gm gb vb mb nv L : Nat) (sp lbb : Int) (v : ByteArray → Nat) (m : ByteArray → List Dat) (hV : Vok v m) (g : Nat) (d : Dat) (a : Option Addr) (cap i n dp : Nat) (wi : Bool) (w : World)
    (hl : Lies B w (g + 1) a d.kids) (hs : d.name.size ≤ maxLen) (hok : ThOk v m d wi i) (hn : n ≤ 2000) (hdp : dp ≤ 41) (hi : i ≤ 2000) (hG : Gst B gm gb vb mb nv L sp lbb v m w) (hc : Ctr gb n w)
    (ih : ∀ (d' : Dat), d' ∈ d.kids → ∀ (a : Option Addr) (cap i n dp : Nat) (wi : Bool) (w : World), Lies B w g a d'.kids → d'.name.size ≤ maxLen → ThOk v m d' wi i → n ≤ 2000 → dp ≤ 41 → i ≤ 2000 → Gst B gm gb vb mb nv L sp lbb v m w → Ctr gb n w →
      Calls Tryz.prog 59 #[.pointer (some ⟨gb, 0, none⟩), dv d' a cap, .int .i64 (i : Int), .int .i64 (dp : Int)] w (ToldG gb (holdsB n dp (fillD v m sp lbb d' i)) (bareD (fillD v m sp lbb d' i)) (n + sizeD (fillD v m sp lbb d' i)) w)) :
    Calls Tryz.prog 59 #[.pointer (some ⟨gb, 0, none⟩), dv d a cap, .int .i64 (i : Int), .int .i64 (dp : Int)] w (ToldG gb (holdsB n dp (fillD v m sp lbb d i)) (bareD (fillD v m sp lbb d i)) (n + sizeD (fillD v m sp lbb d i)) w) := by
  obtain ⟨k, n', nm, st, lb, ks⟩ := d
  simp only at hl hs ih
  by_cases h1 : v (symS k nm) = 1
  · have hk : k = 3 := by
      apply Classical.byContradiction
      intro hk
      rw [symS_em hk, hV.em] at h1
      cases h1
    have h1' : v nm = 1 := by
      rw [hk] at h1
      exact h1
    obtain ⟨x, hx⟩ := hV.one nm h1'
    have e : fillD v m sp lbb ⟨k, n', nm, st, lb, ks⟩ i = x := by
      rw [fillD, if_pos h1, List.getD_eq_getElem?_getD, hx]
      rfl
    rw [e]
    exact thing_one B gm gb vb mb nv L sp lbb v m ⟨k, n', nm, st, lb, ks⟩ a cap i n dp w hs h1 x hx hG hc hn hdp
  · by_cases h2 : v (symS k nm) = 2
    · have hk : k = 3 := by
        apply Classical.byContradiction
        intro hk
        rw [symS_em hk, hV.em] at h2
        cases h2
      have h2' : v nm = 2 := by
        rw [hk] at h2
        exact h2
      have hwi : wi = true := by
        have hr := hok.2.2.1
        rw [rightD, if_pos hk, h2'] at hr
        rw [Bool.and_eq_true] at hr
        have := hr.2
        simpa using this
      have hlt : i < (m nm).length := hok.2.2.2.1 hwi _ (by rw [cntD, if_pos h2]; simp)
      obtain ⟨x, hx⟩ : ∃ x, (m nm)[i]? = some x := ⟨_, List.getElem?_eq_getElem hlt⟩
      have e : fillD v m sp lbb ⟨k, n', nm, st, lb, ks⟩ i = x := by
        rw [fillD, if_neg h1, if_pos h2, List.getD_eq_getElem?_getD, hx]
        rfl
      rw [e]
      exact thing_many B gm gb vb mb nv L sp lbb v m ⟨k, n', nm, st, lb, ks⟩ a cap i n dp w hs h2 x hx hG hc hn hdp
    · have hsp := sizeD_pos (fillD v m sp lbb ⟨k, n', nm, st, lb, ks⟩ i)
      have hdd := deepD_pos (fillD v m sp lbb ⟨k, n', nm, st, lb, ks⟩ i)
      by_cases hfull : n = 2000 ∨ dp = 41
      · have e : holdsB n dp (fillD v m sp lbb ⟨k, n', nm, st, lb, ks⟩ i) = false := by
          unfold holdsB
          rw [Bool.and_eq_false_iff]
          simp
          omega
        rw [e]
        exact thing_no B gm gb vb mb nv L sp lbb v m ⟨k, n', nm, st, lb, ks⟩ a cap i n dp w hs h1 h2 _ _ hG hc hn hdp hfull
      · have hn9 : n ≤ 1999 := by omega
        have hd4 : dp ≤ 40 := by omega
        clear hsp hdd
        have leaf : ∀ (y : Dat), y.kind ≠ 4 → holdsB n dp y = true := fun y hy => by
          unfold holdsB
          rw [(sizeD_leaf hy).1, (sizeD_leaf hy).2]
          simp
          omega
        by_cases h4 : k = 4
        · subst h4
          have e : fillD v m sp lbb ⟨4, n', nm, st, lb, ks⟩ i = ⟨4, 0, emS, 0, 0, fillL v m sp lbb ks i⟩ := by rw [fillD, if_neg h1, if_neg h2, if_pos rfl]
          have e2 : bareD ⟨4, 0, emS, 0, 0, fillL v m sp lbb ks i⟩ = ⟨4, 0, emS, 0, 0, bareL (fillL v m sp lbb ks i)⟩ := by rw [bareD, if_pos rfl]
          have e3 : n + sizeD ⟨4, 0, emS, 0, 0, fillL v m sp lbb ks i⟩ = n + 1 + sizeL (fillL v m sp lbb ks i) := by rw [sizeD, if_pos rfl, Nat.add_assoc]
          rw [e, e2, e3, holdsB_list]
          have hls := hok.list h2
          refine thing_list B gm gb vb mb nv L sp lbb v m ⟨4, n', nm, st, lb, ks⟩ a cap i n dp w hs h1 h2 _ _ _ hG hc hn9 hd4 rfl fun W hkp hcW => ?_
          refine list_grows B gm gb vb mb nv L sp lbb v m g ks a cap i (n + 1) dp W (Lies.stay (fun q hq => hkp.keep.block q (by have := hG.hB; have := hkp.lt; omega) (by have := hG.hB; simp; omega)) _ _ _ hl) (hG.kp hkp) hcW (by omega) hd4 hi ?_ ?_
          · intro x hx hx2
            have hmem := things_mem ks x hx
            have hz := hok.2.1
            rw [sizeD, if_pos rfl] at hz
            have hzd := sizeL_mem ks x.1 hmem
            refine ⟨?_, by omega⟩
            have hr := hok.2.2.1
            rw [rightD, if_neg (by decide), if_pos rfl, rightL_things, List.all_eq_true] at hr
            have := hr x hx
            rw [if_pos hx2] at this
            simp at this
            exact cntD_some v m x.1 this.1.2
          · intro d' dt hd j hj a' cap' n2 w' hl' hs' hn2 hG' hc'
            have hx := hls d' dt hd j hj
            refine ih d' (things_mem ks (d', dt) hd) a' cap' j n2 (dp + 1) (dt || wi) w' hl' hs' hx.1 hn2 (by omega) ?_ hG' hc'
            cases dt with
            | false =>
              rw [if_neg (by simp)] at hj
              omega
            | true =>
              rw [if_pos rfl] at hj
              have hne := hx.2 rfl
              have hfew := cntD_few v m hG'.few d'
              cases hq : cntD v m d' with
              | nil => exact absurd hq hne
              | cons c r =>
                rw [hq] at hj hfew
                have := hfew c (by simp)
                simp at hj
                omega
        · by_cases h3 : k = 3
          · subst h3
            have e : fillD v m sp lbb ⟨3, n', nm, st, lb, ks⟩ i = ⟨3, 0, nm, sp, lbb, []⟩ := by rw [fillD, if_neg h1, if_neg h2, if_neg (by decide), if_pos rfl]
            have e2 : bareD ⟨3, 0, nm, sp, lbb, []⟩ = ⟨3, 0, nm, sp, lbb, []⟩ := by rw [bareD, if_neg (by decide), if_pos rfl]
            rw [e, e2, leaf _ (by show (3 : Int) ≠ 4; decide), (sizeD_leaf (d := ⟨3, 0, nm, sp, lbb, []⟩) (by show (3 : Int) ≠ 4; decide)).1]
            have hsm := hok.1
            rw [smD] at hsm
            exact thing_sym B gm gb vb mb nv L sp lbb v m ⟨3, n', nm, st, lb, ks⟩ a cap i n dp w hs h1 h2 hG hc hn9 hd4 rfl (hsm.1 rfl)
          · have e : fillD v m sp lbb ⟨k, n', nm, st, lb, ks⟩ i = ⟨k, n', emS, 0, 0, []⟩ := by rw [fillD, if_neg h1, if_neg h2, if_neg h4, if_neg h3]
            have e2 : bareD ⟨k, n', emS, 0, 0, []⟩ = soleD ⟨k, n', nm, st, lb, ks⟩ := by rw [bareD, soleD, if_neg h4, if_neg h3, if_neg h3]
            rw [e, e2, leaf _ (by exact h4), (sizeD_leaf (d := ⟨k, n', emS, 0, 0, []⟩) h4).1]
            exact thing_else B gm gb vb mb nv L sp lbb v m ⟨k, n', nm, st, lb, ks⟩ a cap i n dp w hs h1 h2 hG hc hn9 hd4 h3 h4

/-- WHAT COMES OF A THING. -/
theorem thing_any (B gm gb vb mb nv L : Nat) (sp lbb : Int) (v : ByteArray → Nat) (m : ByteArray → List Dat) (hV : Vok v m) : ∀ (g : Nat) (d : Dat) (a : Option Addr) (cap i n dp : Nat) (wi : Bool) (w : World), Lies B w g a d.kids → d.name.size ≤ maxLen → ThOk v m d wi i → n ≤ 2000 → dp ≤ 41 → i ≤ 2000 → Gst B gm gb vb mb nv L sp lbb v m w → Ctr gb n w →
      Calls Tryz.prog 59 #[.pointer (some ⟨gb, 0, none⟩), dv d a cap, .int .i64 (i : Int), .int .i64 (dp : Int)] w (ToldG gb (holdsB n dp (fillD v m sp lbb d i)) (bareD (fillD v m sp lbb d i)) (n + sizeD (fillD v m sp lbb d i)) w) := by
  intro g
  induction g with
  | zero =>
    intro d a cap i n dp wi w hl hs hok hn hdp hi hG hc
    refine growth_step B gm gb vb mb nv L sp lbb v m hV 0 d a cap i n dp wi w (Lies.more 0 a _ hl) hs hok hn hdp hi hG hc fun d' hd => ?_
    rw [show d.kids = [] from hl] at hd
    cases hd
  | succ g ih =>
    intro d a cap i n dp wi w hl hs hok hn hdp hi hG hc
    exact growth_step B gm gb vb mb nv L sp lbb v m hV g d a cap i n dp wi w hl hs hok hn hdp hi hG hc fun d' _ a cap i n dp wi w hl hs hok hn hdp hi hG hc => ih d' a cap i n dp wi w hl hs hok hn hdp hi hG hc

/-- WHAT COMES OF A TEMPLATE. -/
theorem grown_told (B gm gb vb mb nv L : Nat) (sp lbb : Int) (v : ByteArray → Nat) (m : ByteArray → List Dat) (hV : Vok v m) (g : Nat) (d : Dat) (a : Option Addr) (cap : Nat) (w : World) (hl : Lies B w g a d.kids) (hs : d.name.size ≤ maxLen) (hsm : smD d) (hz : sizeD d ≤ 2000) (hr : rightD v d false = true) (hG : Gst B gm gb vb mb nv L sp lbb v m w) (hc : Ctr gb 0 w) :
    Calls Tryz.prog 35 #[.pointer (some ⟨gb, 0, none⟩), dv d a cap] w (ToldW gb (fitsD v m d) (!muchB (fillD v m sp lbb d 0)) (bareD (fillD v m sp lbb d 0)) w) := by
  have hBw : B ≤ w.heap.size := by
    have := hG.hB
    have := hc.lt
    omega
  have e : (!muchB (fillD v m sp lbb d 0)) = holdsB 0 1 (fillD v m sp lbb d 0) := by rw [muchB_eq, Bool.not_not]
  rw [e]
  refine grown_any gb d a cap w _ _ _ (0 + sizeD (fillD v m sp lbb d 0)) hc.lt (fun W hb => ?_) (fun hf W hb => ?_)
  · exact fits_any B gb vb mb nv L sp lbb v m g d a cap W (Nat.le_trans hBw hb.size) (hl.below (hb.mono hBw)) hs hz hr (hG.below hb).cnt
  · exact thing_any B gm gb vb mb nv L sp lbb v m hV g d a cap 0 0 1 false W (hl.below (hb.mono hBw)) hs ⟨hsm, hz, hr, (fun h => by cases h), (fun _ => hf)⟩ (by omega) (by omega) (by omega) (hG.below hb) (hc.below hb)
end Go.Proofs.YtgeedaabdonjcaeGreatDoor
