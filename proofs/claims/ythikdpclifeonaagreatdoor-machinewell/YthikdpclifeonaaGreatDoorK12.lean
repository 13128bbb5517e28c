/- Chapter 9, plainly: WHAT IS COMPILED IS RIGHT. Chapter 9: plain texts; what is wrong with a number. Chapter 9: how many an instruction takes and puts. Chapter 9: the document's own Plain. Chapter 9: a procedure's size; a global's name. -/
import Derived.Test.YthikdpclifeonaaGreatDoorK04
import Derived.Test.YthikdpclifeonaaGreatDoorK11
namespace Go.Proofs.YthikdpclifeonaaGreatDoor
section
set_option linter.unusedVariables false
set_option linter.unusedSimpArgs false

/-- What is known, if those in S are made. -/
def stand (AA : List Int) (S : List Nat) (t : Nat) : Option (Bool × Int) := if t = 0 then some (true, 0) else if t ∈ S then some (false, AA.getD t 0) else none
def Inv (n : Nat) (AA : List Int) (S : List Nat) (K : Kn) : Prop := K.length = n ∧ ∀ t, t < n → K[t]? = some (stand AA S t)
theorem Inv.get {n AA S K} (h : Inv n AA S K) {t : Nat} (ht : t < n) : K.getD t none = stand AA S t := by rw [List.getD_eq_getElem?_getD, h.2 t ht]; rfl
theorem Inv.aro {n AA S K} (h : Inv n AA S K) {q : Nat} {a : Int} (hq : q < n) (ha : AA[q]? = some a) (hz : q = 0 → a = 0) (hS : q = 0 ∨ q ∈ S) : aro K q = a := by
  unfold YthikdpclifeonaaGreatDoor.aro
  rw [h.get hq]
  unfold stand
  by_cases e : q = 0
  · rw [if_pos e]; exact (hz e).symm
  · rw [if_neg e, if_pos (hS.resolve_left e)]
    show AA.getD q 0 = a
    rw [List.getD_eq_getElem?_getD, ha]; rfl

theorem insW_ok {PP : List Pro} {AA : List Int} {gl : In → Int} {q len : Nat} {a : Int} {x : In} {K : Kn} {S : List Nat} (hi : Inv PP.length AA S K) (hq : q < PP.length) (ha : AA[q]? = some a) (hz : q = 0 → a = 0) (hS : q = 0 ∨ q ∈ S)
    (hx : OkI PP AA q a (len - 1) x) (hl : 1 ≤ len) (hg : x.op = 5 ∨ x.op = 12 ∨ x.op = 13 → gl x = 0) (hc : x.op = 8 → x.a ≤ 2000) (hn : (S ++ tg [x]).Nodup) : (insW PP gl q len x K).1 = 0 ∧ Inv PP.length AA (S ++ tg [x]) (insW PP gl q len x K).2 := by
  have hk := hx.kind
  have har := hi.aro hq ha hz hS
  by_cases h7 : x.op = 7
  · obtain ⟨t, e1, e2, P, e3, e4⟩ := hx.clo h7
    have et : tg [x] = [t] := by simp [tg, h7, e1]
    rw [et] at hn ⊢
    have ht : t < PP.length := (List.getElem?_eq_some_iff.1 e3).1
    have htS : t ∉ S := fun m => by
      have := List.nodup_append.1 hn
      exact this.2.2 t m t (by simp) rfl
    have hnone : K.getD t none = none := by rw [hi.get ht]; unfold stand; rw [if_neg (by omega), if_neg htS]
    unfold insW
    simp only [h7]
    simp only [show ¬ ((7 : Int) = 1) by omega, show ¬ ((7 : Int) = 2) by omega, show ¬ ((7 : Int) = 3) by omega, show ¬ ((7 : Int) = 4 ∨ (7 : Int) = 11) by omega, show ¬ ((7 : Int) = 5 ∨ (7 : Int) = 12 ∨ (7 : Int) = 13) by omega, show ¬ ((7 : Int) = 6) by omega, if_false, if_true]
    unfold closeW
    rw [e1, if_neg (by omega), Int.toNat_natCast, hnone]
    refine ⟨rfl, by simp [hi.1], fun u hu => ?_⟩
    simp only [Option.isSome_none, Bool.false_eq_true, if_false]
    by_cases e : u = t
    · subst e
      rw [List.getElem?_set_self (by rw [hi.1]; exact ht)]
      unfold stand
      rw [if_neg (by omega), if_pos (by simp), har]
      rw [List.getD_eq_getElem?_getD, List.getD_eq_getElem?_getD, e3, e4]; rfl
    · rw [List.getElem?_set_ne (by omega), hi.2 u hu]
      unfold stand
      simp [e]
  · have et : tg [x] = [] := by simp [tg, h7]
    rw [et, List.append_nil]
    have : insW PP gl q len x K = (0, K) := by
      unfold insW
      rw [har]
      have hkk : x.op = 1 ∨ x.op = 2 ∨ x.op = 3 ∨ x.op = 4 ∨ x.op = 11 ∨ x.op = 5 ∨ x.op = 12 ∨ x.op = 13 ∨ x.op = 6 ∨ x.op = 8 ∨ x.op = 9 ∨ x.op = 10 ∨ x.op = 14 ∨ x.op = 15 := by omega
      rcases hkk with o | o | o | o | o | o | o | o | o | o | o | o | o | o
      · simp [o, hx.num o]
      · simp [o]; have := hx.boo o; omega
      · simp [o, hx.quo o]
      · have := hx.loc (Or.inl o); simp [o, this]
      · have := hx.loc (Or.inr o); simp [o, this]
      · have := hg (Or.inl o); simp [o, this]
      · have := hg (Or.inr (Or.inl o)); simp [o, this]
      · have := hg (Or.inr (Or.inr o)); simp [o, this]
      · have := hx.pri o; simp [o, this]
      · have := hx.cal o; have := hc o; simp [o]; omega
      · have := hx.jum (Or.inl o); simp [o]; omega
      · have := hx.jum (Or.inr o); simp [o]; omega
      · simp [o]
      · simp [o]
    rw [this]
    exact ⟨rfl, hi⟩
theorem codeW_ok {PP : List Pro} {AA : List Int} {gl : In → Int} {q len : Nat} {a : Int} (hq : q < PP.length) (ha : AA[q]? = some a) (hz : q = 0 → a = 0) (hl : 1 ≤ len) : ∀ (code : List In) (K : Kn) (S : List Nat), Inv PP.length AA S K → (q = 0 ∨ q ∈ S) →
    (∀ x, x ∈ code → OkI PP AA q a (len - 1) x ∧ (x.op = 5 ∨ x.op = 12 ∨ x.op = 13 → gl x = 0) ∧ (x.op = 8 → x.a ≤ 2000)) → (S ++ tg code).Nodup → (codeW PP gl q len code K).1 = 0 ∧ Inv PP.length AA (S ++ tg code) (codeW PP gl q len code K).2
  | [], K, S, hi, hS, hx, hn => by rw [codeW]; simpa [tg] using hi
  | x :: r, K, S, hi, hS, hx, hn => by
    have et : tg (x :: r) = tg [x] ++ tg r := tg_app [x] r
    rw [et, ← List.append_assoc] at hn ⊢
    obtain ⟨h1, h2, h3⟩ := hx x List.mem_cons_self
    obtain ⟨g1, g2⟩ := insW_ok hi hq ha hz hS h1 hl h2 h3 (List.nodup_append.1 hn).1
    rw [codeW, if_pos g1]
    exact codeW_ok hq ha hz hl r _ _ g2 (hS.imp id (fun m => List.mem_append_left _ m)) (fun y m => hx y (List.mem_cons_of_mem _ m)) hn

/-- Procedures that are right, each made once, ahead of it. -/
theorem protosW_ok {PP : List Pro} {AA : List Int} {gl : In → Int} (hA : AA.length = PP.length) (h0 : ∀ a, AA[0]? = some a → a = 0)
    (hP : ∀ q P a, PP[q]? = some P → AA[q]? = some a → P.code ≠ [] ∧ stackOk P.code (q == 0) = true ∧ ∀ x, x ∈ P.code → OkI PP AA q a (P.code.length - 1) x ∧ (x.op = 5 ∨ x.op = 12 ∨ x.op = 13 → gl x = 0) ∧ (x.op = 8 → x.a ≤ 2000))
    (hT : (PP.flatMap fun P => tg P.code).Perm (List.range' 1 (PP.length - 1))) : ∀ (n q : Nat) (K : Kn), q + n = PP.length → Inv PP.length AA ((PP.take q).flatMap fun P => tg P.code) K → protosW PP gl n q K = 0
  | 0, q, K, _, _ => rfl
  | n + 1, q, K, hn, hi => by
    have hq : q < PP.length := by omega
    have eP : PP[q]? = some PP[q] := List.getElem?_eq_getElem hq
    have eA : AA[q]? = some (AA[q]'(by omega)) := List.getElem?_eq_getElem (by omega)
    obtain ⟨p1, p2, p3⟩ := hP q _ _ eP eA
    have hS : q = 0 ∨ q ∈ (PP.take q).flatMap fun P => tg P.code := by
      by_cases e : q = 0
      · exact Or.inl e
      · right
        have : q ∈ PP.flatMap fun P => tg P.code := hT.mem_iff.2 (by rw [List.mem_range'_1]; omega)
        obtain ⟨P, hm, ht⟩ := List.mem_flatMap.1 this
        obtain ⟨p, hp, ep⟩ := List.mem_iff_getElem.1 hm
        have eP' : PP[p]? = some P := by rw [List.getElem?_eq_getElem hp, ep]
        have eA' : AA[p]? = some (AA[p]'(by omega)) := List.getElem?_eq_getElem (by omega)
        unfold tg at ht
        obtain ⟨x, hx, hxa⟩ := List.mem_filterMap.1 ht
        by_cases o : x.op = 7
        · rw [if_pos o] at hxa
          have := ((hP p P _ eP' eA').2.2 x hx).1.clo o
          obtain ⟨t, e1, e2, _⟩ := this
          simp only [Option.some.injEq] at hxa
          have hpq : p < q := by rw [e1, Int.toNat_natCast] at hxa; omega
          refine List.mem_flatMap.2 ⟨P, ?_, by unfold tg; exact ht⟩
          rw [List.mem_take_iff_getElem]
          exact ⟨p, by omega, ep⟩
        · rw [if_neg o] at hxa; simp at hxa
    have etake : ((PP.take (q + 1)).flatMap fun P => tg P.code) = ((PP.take q).flatMap fun P => tg P.code) ++ tg PP[q].code := by
      rw [List.take_succ_eq_append_getElem hq, List.flatMap_append, List.flatMap_cons, List.flatMap_nil, List.append_nil]
    have hnd : (((PP.take q).flatMap fun P => tg P.code) ++ tg PP[q].code).Nodup := by
      rw [← etake]
      have hall : (PP.flatMap fun P => tg P.code).Nodup := hT.nodup_iff.2 (List.nodup_range')
      have e : (PP.flatMap fun P => tg P.code) = ((PP.take (q + 1)).flatMap fun P => tg P.code) ++ ((PP.drop (q + 1)).flatMap fun P => tg P.code) := by
        rw [← List.flatMap_append, List.take_append_drop]
      rw [e] at hall
      exact (List.nodup_append.1 hall).1
    have hz : q = 0 → AA[q]'(by omega) = 0 := fun e => h0 _ (by subst e; exact eA)
    have eg : PP.getD q ⟨0, []⟩ = PP[q] := by rw [List.getD_eq_getElem?_getD, eP]; rfl
    obtain ⟨c1, c2⟩ := codeW_ok (gl := gl) hq eA hz (List.length_pos_iff.2 p1) PP[q].code K _ hi hS p3 hnd
    have est : K.getD q none = some (q == 0, if q = 0 then 0 else AA.getD q 0) := by
      rw [hi.get hq]
      unfold stand
      by_cases e : q = 0
      · simp [e]
      · rw [if_neg e, if_pos (hS.resolve_left e)]; simp [e]
    have hp : protoW PP gl q K = (0, (codeW PP gl q PP[q].code.length PP[q].code K).2) := by
      unfold protoW
      rw [est]
      simp only [eg]
      rw [if_pos c1, p2]
      rfl
    rw [protosW, hp]
    rw [if_pos rfl]
    exact protosW_ok hA h0 hP hT n (q + 1) _ (by omega) (by rw [etake]; exact c2)

theorem ckB_all : ∀ (b : List Cor), ckB b = 0 → ∀ c, c ∈ b → (ckC 300 0 c 0).1 = 0
  | d :: r, h, c, hc => by
    unfold ckB at h
    by_cases e : (ckC 300 0 d 0).1 = 0
    · rw [if_pos e] at h
      rcases List.mem_cons.1 hc with rfl | hc
      · exact e
      · exact ckB_all r h c hc
    · rw [if_neg e] at h; exact absurd h e
theorem genB_SW : ∀ (l : List Cor), (∀ c, c ∈ l → Up c) → ∀ (at0 pr : Nat), SW (genB l at0 pr).1 at0 0 0
  | [], _, at0, pr => by rw [genB]; exact SW.nil _ _
  | c :: r, hl, at0, pr => by
    rw [genB]
    have hc := hl c List.mem_cons_self at0 pr 0 (by omega)
    have hr := genB_SW r (fun c m => hl c (List.mem_cons_of_mem _ m)) (at0 + (genC c at0 pr).1.length + 1) (pr + (genC c at0 pr).2.length)
    have h1 : SW ([insO 14] ++ (genB r (at0 + (genC c at0 pr).1.length + 1) (pr + (genC c at0 pr).2.length)).1) (at0 + (genC c at0 pr).1.length) 1 (-1) := SW.app (pop_SW _ 1 (by omega)) (m2 := 0) hr (fun e => by simp at e) (fun _ => rfl) (by omega)
    exact SW.app hc.1 (m2 := -1) h1 (fun e => absurd e hc.2) (fun e => by simp at e) (by omega)
theorem genB_Gd {PP AA ar} (ga : Cor → List Int) : ∀ (l : List Cor), (∀ c, c ∈ l → Gd PP AA c ar (ga c)) → ∀ at0 pr, GdP PP AA (at0 + (genB l at0 pr).1.length) pr (genB l at0 pr).1 (genB l at0 pr).2 ar (l.flatMap ga)
  | [], _, at0, pr => by rw [genB]; exact GdP.nil _ _ _ _ _
  | c :: r, hl, at0, pr => by
    rw [genB, List.flatMap_cons]
    simp only
    have hc := hl c List.mem_cons_self at0 pr
    have hr := genB_Gd ga r (fun c m => hl c (List.mem_cons_of_mem _ m)) (at0 + (genC c at0 pr).1.length + 1) (pr + (genC c at0 pr).2.length)
    have h1 := GdP.app (GdP.one (PP := PP) (AA := AA) (e := at0 + (genC c at0 pr).1.length + 1 + (genB r (at0 + (genC c at0 pr).1.length + 1) (pr + (genC c at0 pr).2.length)).1.length) (pr := pr + (genC c at0 pr).2.length) (ar := ar) (x := insO 14) (fun q lim _ _ => pop_ok _ _ _ _ _)) hr
    have h2 := GdP.app (hc.mono (e' := at0 + (genC c at0 pr).1.length + 1 + (genB r (at0 + (genC c at0 pr).1.length + 1) (pr + (genC c at0 pr).2.length)).1.length) (by omega)) h1
    exact h2.mono (by simp only [List.length_append, List.length_cons]; omega)
theorem genB_Tg : ∀ (l : List Cor), (∀ c, c ∈ l → Tg c) → ∀ at0 pr, TgP pr (genB l at0 pr).1 (genB l at0 pr).2
  | [], _, at0, pr => by rw [genB]; exact TgP.nil _
  | c :: r, hl, at0, pr => by
    rw [genB]
    have h1 := TgP.app (TgP.one (pr := pr + (genC c at0 pr).2.length) (x := insO 14) (by simp [insO])) (genB_Tg r (fun c m => hl c (List.mem_cons_of_mem _ m)) (at0 + (genC c at0 pr).1.length + 1) (pr + (genC c at0 pr).2.length))
    exact TgP.app (hl c List.mem_cons_self at0 pr) h1

theorem sizesW_ok : ∀ (l : List Pro), (∀ P, P ∈ l → 1 ≤ P.code.length ∧ P.code.length ≤ 6000 ∧ 0 ≤ P.args ∧ P.args ≤ 2000) → sizesW l = 0
  | [], _ => rfl
  | P :: r, h => by
    have := h P List.mem_cons_self
    rw [sizesW, if_neg (by omega), if_neg (by omega)]
    exact sizesW_ok r fun P m => h P (List.mem_cons_of_mem _ m)

/-- WHAT IS COMPILED IS RIGHT, if its names are such, and no call has too many. -/
theorem compiled_right (nm : ByteArray) (b : List Cor) (h : (compile b).1 = 0) (hnm : plainB nm = true)
    (hin : ∀ P, P ∈ (compile b).2 → ∀ x, x ∈ P.code → (x.op = 5 ∨ x.op = 12 ∨ x.op = 13 → nameW x = 0) ∧ (x.op = 8 → x.a ≤ 2000)) : wrongU nm (compile b).2 = 0 := by
  unfold compile at h hin ⊢
  by_cases hw : wrongB b ≠ 0
  · rw [if_pos hw] at h; exact absurd h hw
  rw [if_neg hw] at h hin ⊢
  by_cases hm : muchP (protosOf b) = true
  · rw [if_pos hm] at h; simp at h
  rw [if_neg hm] at hin ⊢
  simp only at hin ⊢
  have hw' : ckB b = 0 := by
    unfold wrongB at hw
    by_cases e : 200 < b.length
    · rw [if_pos e] at hw; omega
    · rw [if_neg e] at hw; omega
  have hck := ckB_all b hw'
  have hup : ∀ c, c ∈ b → Up c := fun c m => up_of _ _ _ _ (hck c m)
  have hsw := genB_SW b hup 0 1
  have htg := genB_Tg b (fun c m => tg_of _ _ _ _ (hck c m)) 0 1
  unfold muchP at hm
  simp only [Bool.or_eq_true, decide_eq_true_eq, List.any_eq_true, not_or, not_exists, not_and] at hm
  obtain ⟨hm1, hm2⟩ := hm
  have ePP : protosOf b = ⟨0, (genB b 0 1).1 ++ [insO 15]⟩ :: (genB b 0 1).2 := rfl
  generalize hPP : protosOf b = PP at *
  have hgd := genB_Gd (PP := PP) (AA := 0 :: b.flatMap fun c => aroundsOf 300 c 0) (ar := 0) (fun c => aroundsOf 300 c 0) b (fun c m => gd_of _ _ _ _ _ _ (hck c m)) 0 1
  obtain ⟨gl1, gl2⟩ := hgd
  have hemb : Emb PP (0 :: b.flatMap fun c => aroundsOf 300 c 0) 1 (genB b 0 1).2 (b.flatMap fun c => aroundsOf 300 c 0) := fun j hj => by
    rw [ePP, show 1 + j = j + 1 by omega]
    exact ⟨by simp, by simp⟩
  obtain ⟨x1, y1⟩ := gl2 hemb 0 _ (by omega) (Nat.le_refl _)
  have hlen : PP.length = (genB b 0 1).2.length + 1 := by rw [ePP]; simp
  unfold wrongU
  rw [if_neg (by rw [hnm]; simp), if_neg (by omega)]
  unfold wrongPs
  have hP : ∀ q P a, PP[q]? = some P → (0 :: b.flatMap fun c => aroundsOf 300 c 0)[q]? = some a → (P.code ≠ [] ∧ stackOk P.code (q == 0) = true ∧ ∀ x, x ∈ P.code → OkI PP (0 :: b.flatMap fun c => aroundsOf 300 c 0) q a (P.code.length - 1) x) ∧ 0 ≤ P.args ∧ P.args ≤ 2000 := by
    intro q P a hq ha
    rw [ePP] at hq
    cases q with
    | zero =>
      simp only [List.getElem?_cons_zero, Option.some.injEq] at hq ha
      subst hq ha
      refine ⟨⟨by simp, stack_of (body := true) hsw (fun _ => rfl) rfl, fun x hx => ?_⟩, by simp⟩
      rcases List.mem_append.1 hx with hx | hx
      · have := x1 x hx
        simpa using this
      · rw [List.mem_singleton.1 hx]; exact ret_ok _ _ _ _ _
    | succ j =>
      simp only [List.getElem?_cons_succ] at hq ha
      have := y1 j P a hq ha
      rw [show 1 + j = j + 1 by omega] at this
      exact ⟨⟨this.ne, this.st, this.ins⟩, this.args⟩
  have hAl : (0 :: b.flatMap fun c => aroundsOf 300 c 0).length = PP.length := by rw [hlen, List.length_cons, gl1]
  have hs : sizesW PP = 0 := sizesW_ok PP fun P m => by
    obtain ⟨q, hq, eq⟩ := List.mem_iff_getElem.1 m
    have hA' : q < (0 :: b.flatMap fun c => aroundsOf 300 c 0).length := by rw [hAl]; exact hq
    have := hP q P _ (by rw [List.getElem?_eq_getElem hq, eq]) (List.getElem?_eq_getElem hA')
    have h1 := List.length_pos_iff.2 this.1.1
    have h2 := hm2 P m
    exact ⟨h1, by omega, this.2⟩
  rw [if_neg (by rw [hs]; simp)]
  have hb : bodiesW PP [0] (List.replicate PP.length none) = (0, (List.replicate PP.length none).set 0 (some (true, 0))) := by
    rw [bodiesW, if_neg (by omega), if_neg (by rw [ePP]; simp)]
    rfl
  rw [hb, if_neg (by simp)]
  refine protosW_ok (AA := 0 :: b.flatMap fun c => aroundsOf 300 c 0) hAl (fun a ha => by simpa using ha.symm) (fun q P a hq ha => ?_) ?_ PP.length 0 _ (by omega) ⟨by simp, fun t ht => ?_⟩
  · have := (hP q P a hq ha).1
    exact ⟨this.1, this.2.1, fun x hx => ⟨this.2.2 x hx, hin P (List.mem_of_getElem? hq) x hx⟩⟩
  · rw [hlen, Nat.add_sub_cancel]
    rw [ePP, List.flatMap_cons, tg_app]
    have e2 : tg [insO 15] = [] := by simp [tg, insO]
    rw [e2, List.append_nil]
    exact htg
  · unfold stand
    by_cases e : t = 0
    · subst e
      rw [List.getElem?_set_self (by simpa using ht), if_pos rfl]
    · rw [List.getElem?_set_ne (by omega), if_neg e, if_neg (by simp), List.getElem?_replicate, if_pos ht]
end
section
set_option linter.unusedVariables false
set_option linter.unusedSimpArgs false
open Go.RowKit

def plC (c : UInt8) : Bool := decide (32 ≤ c.toNat) && decide (c.toNat ≤ 126)
def allPl (l : List UInt8) : Bool := l.all plC
theorem plainB_eq (s : ByteArray) : plainB s = (decide (s.size ≤ 60) && allPl s.data.toList) := rfl
theorem pl_step (s : ByteArray) (k : Nat) (h : k < s.size) (hl : plC s[k] = true) (ha : allPl (s.data.toList.take k) = true) : allPl (s.data.toList.take (k + 1)) = true := by
  have h' : k < s.data.toList.length := by rw [Array.length_toList]; exact h
  unfold allPl at *
  rw [List.take_succ_eq_append_getElem h', List.all_append, ha]
  have e : s.data.toList[k] = s[k] := rfl
  simp [e, hl]
theorem pl_stop (s : ByteArray) (k : Nat) (h : k < s.size) (hl : plC s[k] = false) : allPl s.data.toList = false := by
  have h' : k < s.data.toList.length := by rw [Array.length_toList]; exact h
  unfold allPl
  rw [List.all_eq_false]
  exact ⟨s.data.toList[k], List.getElem_mem h', by rw [show s.data.toList[k] = s[k] from rfl, hl]; simp⟩
theorem pl_end (s : ByteArray) (ha : allPl (s.data.toList.take s.size) = true) : allPl s.data.toList = true := by
  rwa [List.take_of_length_le (by rw [Array.length_toList]; exact Nat.le_refl _)] at ha

set_option maxHeartbeats 400000 in
theorem plain_any (s : ByteArray) (hs : s.size ≤ maxLen) (w : World) :
    Calls Tryz.prog 96 #[.string s] w fun e w' => e = .returned (.bool (plainB s)) ∧ w' = w := by
  unfold maxLen at hs
  rw [plainB_eq]
  by_cases h60 : s.size ≤ 60
  · rw [decide_eq_true h60, Bool.true_and]
    have h60' : ¬ 60 < s.size := by omega
    go_enter Tryz.func96, Tryz.ntmps96
    go_wp2_with fail
    go_loop [9] (fun i => ∃ k : Nat, k ≤ s.size ∧ i = .int .i64 k ∧ allPl (s.data.toList.take k) = true) (fun i => s.size - (intOf i).toNat)
    case atStart => exact ⟨0, Nat.zero_le _, rfl, rfl⟩
    case round =>
      obtain ⟨k, hk, rfl, ha⟩ := hrel
      have HA : Hid (allPl (s.data.toList.take k) = true) := ha
      clear ha
      by_cases hlt : k < s.size
      · have hbd := s[k].toNat_lt
        by_cases h1 : s[k].toNat < 32
        · have HD : Hid (plC s[k] = false) := by unfold Hid plC; simp; omega
          go_wp2_with fail
          go_ret
          exact ⟨retB (by rw [pl_stop s k hlt HD.out]), rfl⟩
        · by_cases h2 : 126 < s[k].toNat
          · have HD : Hid (plC s[k] = false) := by unfold Hid plC; simp; omega
            go_wp2_with fail
            go_ret
            exact ⟨retB (by rw [pl_stop s k hlt HD.out]), rfl⟩
          · have HD : Hid (plC s[k] = true) := by unfold Hid plC; simp; omega
            go_wp2_with fail
            go_round
            case rel => exact ⟨k + 1, by omega, by go_num, pl_step s k hlt HD.out HA.out⟩
            case measure => simp [intOf]; omega
      · obtain rfl : k = s.size := by omega
        go_wp2_with fail
        go_ret
        exact ⟨retB (by rw [pl_end s HA.out]), rfl⟩
  · rw [decide_eq_false h60, Bool.false_and]
    have h60' : 60 < s.size := by omega
    go_enter Tryz.func96, Tryz.ntmps96
    go_wp2_with fail
    go_ret
    exact ⟨rfl, rfl⟩

theorem otherwise_any (b : Bool) (e : Int) (w : World) : Calls Tryz.prog 83 #[.bool b, .int .i64 e] w fun r w' => r = .returned (.int .i64 (if b then 0 else e)) ∧ w' = w := by
  cases b <;>
  · go_enter Tryz.func83, Tryz.ntmps83
    go_wp2_with fail
    go_ret
    exact ⟨rfl, rfl⟩
theorem below_any (n m : Int) (w : World) : Calls Tryz.prog 39 #[.int .i64 n, .int .i64 m] w fun r w' => r = .returned (.int .i64 (if 0 ≤ n ∧ n < m then 0 else 3)) ∧ w' = w := by
  have O := fun b w => otherwise_any b 3 w
  by_cases h1 : 0 ≤ n
  · by_cases h2 : n < m
    · rw [if_pos ⟨h1, h2⟩]
      go_enter Tryz.func39, Tryz.ntmps39
      go_wp2_with fail
      refine (O true _).mono ?_
      rintro e w1 ⟨rfl, rfl⟩
      go_wp2_with fail
      go_ret
      exact ⟨rfl, rfl⟩
    · rw [if_neg (by omega)]
      go_enter Tryz.func39, Tryz.ntmps39
      go_wp2_with fail
      refine (O false _).mono ?_
      rintro e w1 ⟨rfl, rfl⟩
      go_wp2_with fail
      go_ret
      exact ⟨rfl, rfl⟩
  · rw [if_neg (by omega)]
    go_enter Tryz.func39, Tryz.ntmps39
    go_wp2_with fail
    refine (O false _).mono ?_
    rintro e w1 ⟨rfl, rfl⟩
    go_wp2_with fail
    go_ret
    exact ⟨rfl, rfl⟩
end
section
set_option linter.unusedVariables false
set_option linter.unusedSimpArgs false
open Go.RowKit

set_option maxHeartbeats 800000 in
theorem moves_any (x : In) (b o : Nat) (w : World) (h0 : w.cell? ⟨b, o, none⟩ = some (.int .i64 x.op)) (h1 : w.cell? ⟨b, o + 1, none⟩ = some (.int .i64 x.a)) (hc : x.op = 8 → 0 ≤ x.a ∧ x.a ≤ 2000) :
    Calls Tryz.prog 154 #[.pointer (some ⟨b, o, none⟩)] w fun r w' => r = .returned (.tuple #[.int .i64 (movesI x).1, .int .i64 (movesI x).2]) ∧ w' = w := by
  obtain ⟨op, a, n, lb, ow, q⟩ := x
  simp only at h0 h1 hc
  by_cases k8 : op = 8
  · subst k8
    have hca := hc rfl
    clear hc
    rw [show movesI ⟨8, a, n, lb, ow, q⟩ = (a + 1, 1) by simp [movesI]]
    go_enter Tryz.func154, Tryz.ntmps154
    go_wp2_with fail
    refine bodyPost_ret (v := .tuple #[.int .i64 (a + 1), .int .i64 1]) (by simp [results, Tryz.results154, go_sem]) rfl ⟨rfl, rfl⟩
  · clear hc
    by_cases kk : op = 1 ∨ op = 2 ∨ op = 3 ∨ op = 4 ∨ op = 5 ∨ op = 6 ∨ op = 7 ∨ op = 10 ∨ op = 14 ∨ op = 11 ∨ op = 12 ∨ op = 13
    · rcases kk with rfl | rfl | rfl | rfl | rfl | rfl | rfl | rfl | rfl | rfl | rfl | rfl <;>
      · simp only [movesI]
        go_enter Tryz.func154, Tryz.ntmps154
        go_wp2_with fail
        first | exact bodyPost_ret (v := .tuple #[.int .i64 0, .int .i64 1]) (by simp [results, Tryz.results154, go_sem]) rfl ⟨rfl, rfl⟩ | exact bodyPost_ret (v := .tuple #[.int .i64 1, .int .i64 0]) (by simp [results, Tryz.results154, go_sem]) rfl ⟨rfl, rfl⟩ | exact bodyPost_ret (v := .tuple #[.int .i64 1, .int .i64 1]) (by simp [results, Tryz.results154, go_sem]) rfl ⟨rfl, rfl⟩
    · have hm : movesI ⟨op, a, n, lb, ow, q⟩ = (0, 0) := by
        unfold movesI
        rw [if_neg (by simp only; omega), if_neg (by simp only; omega), if_neg (by simp only; omega), if_neg (by simp only; omega)]
      rw [hm]
      have e1 : (op == 1) = false := by simp; omega
      have e2 : (op == 2) = false := by simp; omega
      have e3 : (op == 3) = false := by simp; omega
      have e4 : (op == 4) = false := by simp; omega
      have e5 : (op == 5) = false := by simp; omega
      have e6 : (op == 6) = false := by simp; omega
      have e7 : (op == 7) = false := by simp; omega
      have e8 : (op == 8) = false := by simp; omega
      have e10 : (op == 10) = false := by simp; omega
      have e11 : (op == 11) = false := by simp; omega
      have e12 : (op == 12) = false := by simp; omega
      have e13 : (op == 13) = false := by simp; omega
      have e14 : (op == 14) = false := by simp; omega
      clear kk k8 hm
      go_enter Tryz.func154, Tryz.ntmps154
      go_wp2_with fail
      refine bodyPost_ret (v := .tuple #[.int .i64 0, .int .i64 0]) (by simp [results, Tryz.results154, go_sem]) rfl ⟨rfl, rfl⟩
end
section
set_option linter.unusedVariables false
set_option linter.unusedSimpArgs false
open Go.RowKit

set_option maxHeartbeats 400000 in
theorem Plain_any (s : ByteArray) (hs : s.size ≤ maxLen) (w : World) :
    Calls Tryz.prog 87 #[.string s] w fun e w' => e = .returned (.bool (plainB s)) ∧ Below w.heap.size w w' := by
  unfold maxLen at hs
  rw [plainB_eq]
  have hcv := fun w s => run_bytes_of_string (P := Tryz.prog) w 9 202 5 s Tryz.underlying9 Tryz.underlying202 Tryz.underlying5
  go_enter Tryz.func87, Tryz.ntmps87
  go_wp2_with fail
  go_loopw [8] (fun i wr => ∃ k : Nat, k ≤ s.size ∧ i = .int .i64 k ∧ Below w.heap.size w wr ∧ w.heap.size < wr.heap.size ∧ (∀ j, j < s.size → wr.cell? ⟨w.heap.size, j, none⟩ = some (.int .u8 ((s.data.toList[j]?.getD 0).toNat : Int))) ∧ allPl (s.data.toList.take k) = true) (fun i _ => s.size - (intOf i).toNat)
  case atStart =>
    refine ⟨0, by omega, rfl, ((Below.refl _ _).alloc (Nat.le_refl _) _).drew, by simp, ?_, rfl⟩
    intro j hj
    refine (World.cell?_alloc_mark w _ 5 _ j).trans ?_
    exact bytesRow_at _ _ j hj
  case round =>
    obtain ⟨k, hk, rfl, hb, hsz, hc, hn⟩ := hrel
    have HN : Hid (allPl (s.data.toList.take k) = true) := hn
    clear hn hcv
    by_cases hlt : k < s.size
    · have e : s.data.toList[k]?.getD 0 = s[k] := by
        have h' : k < s.data.toList.length := by rw [Array.length_toList]; exact hlt
        rw [List.getElem?_eq_getElem h']; rfl
      have hck := hc k hlt
      rw [e] at hck
      have HC : Hid (∀ j, j < s.size → wr.cell? ⟨w.heap.size, j, none⟩ = some (.int .u8 ((s.data.toList[j]?.getD 0).toNat : Int))) := hc
      clear hc e
      have hbd := s[k].toNat_lt
      by_cases h1 : s[k].toNat < 32
      · have HD : Hid (plC s[k] = false) := by unfold Hid plC; simp; omega
        go_wp2_with fail
        go_ret
        exact ⟨retB (by rw [pl_stop s k hlt HD.out, Bool.and_false]), hb⟩
      · by_cases h2 : 126 < s[k].toNat
        · have HD : Hid (plC s[k] = false) := by unfold Hid plC; simp; omega
          go_wp2_with fail
          go_ret
          exact ⟨retB (by rw [pl_stop s k hlt HD.out, Bool.and_false]), hb⟩
        · have HD : Hid (plC s[k] = true) := by unfold Hid plC; simp; omega
          go_wp2_with fail
          go_roundw
          case rel => exact ⟨k + 1, by omega, by go_num, hb, hsz, HC.out, pl_step s k hlt HD.out HN.out⟩
          case measure => simp [intOf]; omega
    · obtain rfl : k = s.size := by omega
      clear hc
      by_cases h60 : s.size ≤ 60
      · go_wp2_with fail
        go_ret
        exact ⟨retB (by rw [pl_end s HN.out, Bool.and_true]; exact decide_eq_decide.2 (by omega)), hb⟩
      · go_wp2_with fail
        go_ret
        exact ⟨retB (by rw [decide_eq_false h60, Bool.false_and]; exact decide_eq_false (by omega)), hb⟩
end
section
set_option linter.unusedVariables false
set_option linter.unusedSimpArgs false
open Go.RowKit

/-- What is wrong with a procedure's size. -/
def sizeW (args : Int) (n : Nat) : Int := if n < 1 ∨ 6000 < n then 5 else if args < 0 ∨ 2000 < args then 3 else 0
set_option maxHeartbeats 800000 in
theorem wrongSize_any (b o : Nat) (args : Int) (ca : Option Addr) (n cc : Nat) (w : World) (h0 : w.cell? ⟨b, o, none⟩ = some (.int .i64 args)) (h1 : w.cell? ⟨b, o + 1, none⟩ = some (.slice ca n cc)) :
    Calls Tryz.prog 79 #[.pointer (some ⟨b, o, none⟩)] w fun r w' => r = .returned (.int .i64 (sizeW args n)) ∧ w' = w := by
  have B := hidd (below_any args 2001 w)
  by_cases c1 : n < 1
  · have : n = 0 := by omega
    subst this
    clear c1
    rw [show sizeW args 0 = 5 from rfl]
    go_enter Tryz.func79, Tryz.ntmps79
    go_wp2_with fail
    go_ret
    exact ⟨rfl, rfl⟩
  by_cases c2 : 6000 < n
  · rw [show sizeW args n = 5 by unfold sizeW; rw [if_pos (Or.inr c2)]]
    go_enter Tryz.func79, Tryz.ntmps79
    go_wp2_with fail
    go_ret
    exact ⟨rfl, rfl⟩
  have e : sizeW args n = if 0 ≤ args ∧ args < 2001 then 0 else 3 := by
    unfold sizeW
    rw [if_neg (by omega)]
    by_cases c : args < 0 ∨ 2000 < args
    · rw [if_pos c, if_neg (by omega)]
    · rw [if_neg c, if_pos (by omega)]
  rw [e]
  generalize (if 0 ≤ args ∧ args < 2001 then (0 : Int) else 3) = y at B ⊢
  clear e
  go_enter Tryz.func79, Tryz.ntmps79
  go_wp2_with fail
  refine B.out.mono ?_
  rintro e w1 ⟨rfl, rfl⟩
  go_wp2_with fail
  go_ret
  exact ⟨rfl, rfl⟩

set_option maxHeartbeats 800000 in
theorem wrongName_any (x : In) (b o : Nat) (w : World) (h3 : w.cell? ⟨b, o + 3, none⟩ = some (.string x.lib)) (h4 : w.cell? ⟨b, o + 4, none⟩ = some (.string x.own)) (hl : x.lib.size ≤ maxLen) (ho : x.own.size ≤ maxLen) :
    Calls Tryz.prog 97 #[.pointer (some ⟨b, o, none⟩)] w fun r w' => r = .returned (.int .i64 (nameW x)) ∧ w' = w := by
  have P := hidd (plain_any x.lib hl w)
  have N := hidd (Named_any x.own ho w)
  have O := hidd (fun b => otherwise_any b 7 w)
  unfold nameW
  generalize plainB x.lib = p at P ⊢
  generalize namedB x.own = q at N ⊢
  clear hl ho
  cases p
  · go_enter Tryz.func97, Tryz.ntmps97
    go_wp2_with fail
    refine P.out.mono ?_
    rintro e w1 ⟨rfl, rfl⟩
    go_wp2_with fail
    refine (O.out false).mono ?_
    rintro e w2 ⟨rfl, rfl⟩
    go_wp2_with fail
    go_ret
    exact ⟨rfl, rfl⟩
  · cases q <;>
    · go_enter Tryz.func97, Tryz.ntmps97
      go_wp2_with fail
      refine P.out.mono ?_
      rintro e w1 ⟨rfl, rfl⟩
      go_wp2_with fail
      refine N.out.mono ?_
      rintro e w2 ⟨rfl, rfl⟩
      go_wp2_with fail
      refine (O.out _).mono ?_
      rintro e w3 ⟨rfl, rfl⟩
      go_wp2_with fail
      go_ret
      exact ⟨rfl, rfl⟩
end
end Go.Proofs.YthikdpclifeonaaGreatDoor
