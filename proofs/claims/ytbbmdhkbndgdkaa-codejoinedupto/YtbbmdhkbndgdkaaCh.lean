/- How much code there will be: package code's scale. -/
import Derived.Test.YtbbmdhkbndgdkaaCg
namespace Go.Proofs.Ytbbmdhkbndgdkaa
set_option linter.unusedVariables false
set_option linter.unusedSimpArgs false
open Go.RowKit

mutual
/-- How many procedures are in an expression. -/
def lamC : Cor → Nat
  | ⟨k, i, n, lb, ow, q, ks⟩ => (if k = 8 then 1 else 0) + lamL ks
def lamL : List Cor → Nat
  | [] => 0
  | c :: r => lamC c + lamL r
end
mutual
/-- How long the longest one of these is. -/
def lonC : Cor → Nat
  | ⟨k, i, n, lb, ow, q, ks⟩ => max (lonL ks) (if k = 8 then sizL ks + 1 else 0)
def lonL : List Cor → Nat
  | [] => 0
  | c :: r => max (lonC c) (lonL r)
end
mutual
/-- Each node has as many kids as it must. -/
def okC : Cor → Prop
  | ⟨k, i, n, lb, ow, q, ks⟩ => wkids k ks.length = 0 ∧ okL ks
def okL : List Cor → Prop
  | [] => True
  | c :: r => okC c ∧ okL r
end
theorem sizL_append : ∀ (a b : List Cor), sizL (a ++ b) = sizL a + sizL b
  | [], b => by simp [sizL]
  | c :: a, b => by rw [List.cons_append, sizL, sizL, sizL_append a b]; omega
theorem lamL_append : ∀ (a b : List Cor), lamL (a ++ b) = lamL a + lamL b
  | [], b => by simp [lamL]
  | c :: a, b => by rw [List.cons_append, lamL, lamL, lamL_append a b]; omega
theorem lonL_append : ∀ (a b : List Cor), lonL (a ++ b) = max (lonL a) (lonL b)
  | [], b => by simp [lonL]
  | c :: a, b => by rw [List.cons_append, lonL, lonL, lonL_append a b]; omega
theorem take_more {α : Type} {l : List α} {j : Nat} {c : α} (h : l[j]? = some c) : l.take (j + 1) = l.take j ++ [c] := by
  rw [List.take_add_one, h]; rfl
theorem sizL_more {l : List Cor} {j : Nat} {c : Cor} (h : l[j]? = some c) : sizL (l.take (j + 1)) = sizL (l.take j) + sizC c := by
  rw [take_more h, sizL_append]; simp [sizL]
theorem lamL_more {l : List Cor} {j : Nat} {c : Cor} (h : l[j]? = some c) : lamL (l.take (j + 1)) = lamL (l.take j) + lamC c := by
  rw [take_more h, lamL_append]; simp [lamL]
theorem lonL_more {l : List Cor} {j : Nat} {c : Cor} (h : l[j]? = some c) : lonL (l.take (j + 1)) = max (lonL (l.take j)) (lonC c) := by
  rw [take_more h, lonL_append]; simp [lonL]
theorem sizL_take (l : List Cor) (j : Nat) : sizL (l.take j) ≤ sizL l := by
  have h := sizL_append (l.take j) (l.drop j)
  rw [List.take_append_drop] at h
  omega
theorem lamL_take (l : List Cor) (j : Nat) : lamL (l.take j) ≤ lamL l := by
  have h := lamL_append (l.take j) (l.drop j)
  rw [List.take_append_drop] at h
  omega
theorem okL_at : ∀ (l : List Cor) (j : Nat) (c : Cor), okL l → l[j]? = some c → okC c
  | x :: r, 0, c, h, hj => by
    rw [okL] at h
    simp at hj
    subst hj
    exact h.1
  | x :: r, j + 1, c, h, hj => by
    rw [okL] at h
    exact okL_at r j c h.2 (by simpa using hj)
theorem okC_kids {c : Cor} (h : okC c) : okL c.kids := by
  obtain ⟨k, i, n, lb, ow, q, ks⟩ := c
  rw [okC] at h
  exact h.2
theorem okC_wk {c : Cor} (h : okC c) : wkids c.kind c.kids.length = 0 := by
  obtain ⟨k, i, n, lb, ow, q, ks⟩ := c
  rw [okC] at h
  exact h.1

theorem wk12 {n : Nat} (h : wkids 12 n = 0) : 1 ≤ n := by
  cases n with
  | zero => simp [wkids] at h
  | succ n => omega

/-- What a scale holds. -/
structure Scl (sb p q : Nat) (w : World) : Prop where
  lt : sb < w.heap.size
  c0 : w.cell? ⟨sb, 0, none⟩ = some (.int .i64 (p : Int))
  c1 : w.cell? ⟨sb, 1, none⟩ = some (.int .i64 (q : Int))
  z0 : w.frozen? ⟨sb, 0, none⟩ = false
  z1 : w.frozen? ⟨sb, 1, none⟩ = false
def ToldS (sb : Nat) (r p q : Nat) (w : World) (e : Ending) (w' : World) : Prop := e = .returned (.int .i64 (r : Int)) ∧ Keep sb w w' ∧ Scl sb p q w'

theorem Scl.set {sb p q : Nat} {w : World} (h : Scl sb p q w) (p' q' : Nat) : Scl sb p' q' ((w.setCell ⟨sb, 0, none⟩ (.int .i64 (p' : Int))).setCell ⟨sb, 1, none⟩ (.int .i64 (q' : Int))) := by
  obtain ⟨lt, c0, c1, z0, z1⟩ := h
  refine ⟨by simp [World.setCell]; exact lt, ?_, ?_, ?_, ?_⟩
  · go_simp
  · go_simp
  · go_simp
  · go_simp

set_option maxRecDepth 100000 in
set_option maxHeartbeats 1600000 in
theorem sproto_any (sb p q n : Nat) (w : World) (h : Scl sb p q w) (hp : p ≤ 1000000000) (hq : q ≤ 1000000000) (hn : n ≤ 1000000000) :
    Calls Try.prog 24 #[.pointer (some ⟨sb, 0, none⟩), .int .i64 (n : Int)] w fun e w' => e = .returned (.tuple #[]) ∧ Keep sb w w' ∧ Scl sb (p + 1) (max q (n + 1)) w' := by
  have HS := hidd (h.set (p + 1) (max q (n + 1)))
  have HK : Hid (Keep sb w ((w.setCell ⟨sb, 0, none⟩ (.int .i64 ((p + 1 : Nat) : Int))).setCell ⟨sb, 1, none⟩ (.int .i64 ((max q (n + 1) : Nat) : Int)))) := ((Keep.refl sb w).setCell ⟨sb, 0, none⟩ rfl _).setCell ⟨sb, 1, none⟩ rfl _
  obtain ⟨lt, c0, c1, z0, z1⟩ := h
  go_enter Try.func24, Try.ntmps24
  go_wp2_with fail
  rw [show max (q : Int) ((n : Int) + 1) = ((max q (n + 1) : Nat) : Int) by omega, show (p : Int) + 1 = ((p + 1 : Nat) : Int) by omega]
  go_end0
  exact ⟨rfl, HK.out, HS.out⟩

set_option maxRecDepth 100000 in
set_option maxHeartbeats 3200000 in
theorem score_step (B f sb : Nat) (hB : B ≤ sb)
    (ih : ∀ (l : List Cor) (a : Option Addr) (cap p q : Nat) (w : World), Cc B w f a l → l.length ≤ cap → okL l → sizL l ≤ 1000000000 → p + lamL l ≤ 1000000000 → q ≤ 1000000000 → lonL l ≤ 1000000000 → Scl sb p q w → Calls Try.prog 25 #[.pointer (some ⟨sb, 0, none⟩), .slice a l.length cap] w (ToldS sb (sizL l) (p + lamL l) (max q (lonL l)) w))
    (b o : Nat) (c : Cor) (p q : Nat) (w : World) (hc : Cn B w f b o c) (hok : okC c) (hs : sizC c ≤ 1000000000) (hp : p + lamC c ≤ 1000000000) (hq : q ≤ 1000000000) (hl : lonC c ≤ 1000000000) (h : Scl sb p q w) :
    Calls Try.prog 36 #[.pointer (some ⟨sb, 0, none⟩), .pointer (some ⟨b, o, none⟩)] w (ToldS sb (sizC c) (p + lamC c) (max q (lonC c)) w) := by
  obtain ⟨hbB, qa, qc, ka, kc, nc, ok, hqd, hk⟩ := hc
  have hw1 := okC_wk hok
  have hlen := hk.len
  have hbs : b ≠ sb := by omega
  have hsl := h.lt
  obtain ⟨k, i, n, lb, ow, qq, ks⟩ := c
  have c0 := nc.c0
  have c11 := nc.c11
  simp only at c0 c11 hk hw1 hlen
  have hkc : ks.length ≤ kc := ok.2.2.2.2
  have hks : sizL ks ≤ 1000000000 := by
    by_cases h8 : k = 8
    · subst h8; rw [lonC, if_pos rfl] at hl; omega
    · rw [sizC, if_neg h8] at hs
      by_cases h7 : k = 7
      · rw [if_pos h7] at hs; omega
      · rw [if_neg h7] at hs
        by_cases h12 : k = 12
        · rw [if_pos h12] at hs
          subst h12
          have := wk12 hw1
          omega
        · rw [if_neg h12] at hs; omega
  have hkl : lonL ks ≤ 1000000000 := by rw [lonC] at hl; omega
  have hkp : p + lamL ks ≤ 1000000000 := by rw [lamC] at hp; omega
  have H25 := hidd (ih ks ka kc p q w hk hkc (okC_kids hok) hks hkp hq hkl h)
  have E1 : Hid (k = 8 → sizC ⟨k, i, n, lb, ow, qq, ks⟩ = 1 ∧ p + lamC ⟨k, i, n, lb, ow, qq, ks⟩ = p + lamL ks + 1 ∧ max q (lonC ⟨k, i, n, lb, ow, qq, ks⟩) = max (max q (lonL ks)) (sizL ks + 1)) := fun h8 => by
    rw [sizC, lamC, lonC, if_pos h8, if_pos h8, if_pos h8]; omega
  have E2 : Hid (k ≠ 8 → p + lamC ⟨k, i, n, lb, ow, qq, ks⟩ = p + lamL ks ∧ max q (lonC ⟨k, i, n, lb, ow, qq, ks⟩) = max q (lonL ks)) := fun h8 => by
    rw [lamC, lonC, if_neg h8, if_neg h8]; omega
  have E3 : Hid (k ≠ 8 → sizC ⟨k, i, n, lb, ow, qq, ks⟩ = if k = 7 then sizL ks + 2 else if k = 12 then sizL ks + ks.length - 1 else sizL ks + 1) := fun h8 => by
    show sizC _ = _
    rw [sizC, if_neg h8]
  have hw12 : k = 12 → 1 ≤ ks.length := fun h12 => by subst h12; exact wk12 hw1
  generalize sizC ⟨k, i, n, lb, ow, qq, ks⟩ = S at hs E1 E3 ⊢
  generalize p + lamC ⟨k, i, n, lb, ow, qq, ks⟩ = P at hp E1 E2 ⊢
  generalize max q (lonC ⟨k, i, n, lb, ow, qq, ks⟩) = Q at E1 E2 ⊢
  generalize hSL : sizL ks = sl at *
  generalize hPL : p + lamL ks = pl at *
  generalize hQL : max q (lonL ks) = ql at *
  have hql : ql ≤ 1000000000 := by omega
  clear hSL hPL hQL nc ok hqd hk hok hl ih hw1 hkl h
  go_enter Try.func36, Try.ntmps36
  go_wp2_with fail
  refine H25.out.mono ?_
  rintro e w1 ⟨rfl, hk1, hs1⟩
  have d0 := (hk1.cell (p := ⟨b, o, none⟩) (by show b < w.heap.size; omega) hbs).trans c0
  have d11 := (hk1.cell (p := ⟨b, o + 11, none⟩) (by show b < w.heap.size; omega) hbs).trans c11
  have HK1 := hidd hk1
  have HS1 := hidd hs1
  clear hk1 hs1 c0 c11 H25
  by_cases h8 : k = 8
  · obtain ⟨rfl, rfl, rfl⟩ := E1.out h8
    subst h8
    clear E1 E2 E3
    go_wp2_with fail
    refine (sproto_any sb pl ql sl w1 HS1.out hkp hql hks).mono ?_
    rintro e w2 ⟨rfl, hk2, hs2⟩
    have HK2 := hidd (HK1.out.trans hk2)
    have HS2 := hidd hs2
    clear hk2 hs2 d0 d11
    go_wp2_with fail
    go_ret
    exact ⟨rfl, HK2.out, HS2.out⟩
  · obtain ⟨rfl, rfl⟩ := E2.out h8
    have e3 := E3.out h8
    have h8' : (k == 8) = false := by simpa using h8
    clear E1 E2 E3 h8
    by_cases h7 : k = 7
    · rw [if_pos h7] at e3
      subst e3 h7
      go_wp2_with fail
      go_ret
      exact ⟨by simp, HK1.out, HS1.out⟩
    · rw [if_neg h7] at e3
      have h7' : (k == 7) = false := by simpa using h7
      clear h7
      by_cases h12 : k = 12
      · rw [if_pos h12] at e3
        have := hw12 h12
        subst e3 h12
        go_wp2_with fail
        go_ret
        exact ⟨by rw [show ((sl + ks.length - 1 : Nat) : Int) = (sl : Int) + ks.length - 1 by omega]; rfl, HK1.out, HS1.out⟩
      · rw [if_neg h12] at e3
        have h12' : (k == 12) = false := by simpa using h12
        clear h12
        subst e3
        go_wp2_with fail
        go_ret
        exact ⟨by simp, HK1.out, HS1.out⟩

set_option maxRecDepth 100000 in
set_option maxHeartbeats 3200000 in
theorem sall_step (B f sb : Nat) (hB : B ≤ sb)
    (l : List Cor)
    (ih : l ≠ [] → ∀ (b o : Nat) (c : Cor) (p q : Nat) (w : World), Cn B w f b o c → okC c → sizC c ≤ 1000000000 → p + lamC c ≤ 1000000000 → q ≤ 1000000000 → lonC c ≤ 1000000000 → Scl sb p q w → Calls Try.prog 36 #[.pointer (some ⟨sb, 0, none⟩), .pointer (some ⟨b, o, none⟩)] w (ToldS sb (sizC c) (p + lamC c) (max q (lonC c)) w))
    (a : Option Addr) (cap p q : Nat) (w : World) (hc : Cc B w (f + 1) a l) (hcap : l.length ≤ cap) (hok : okL l) (hs : sizL l ≤ 1000000000) (hp : p + lamL l ≤ 1000000000) (hq : q ≤ 1000000000) (hl : lonL l ≤ 1000000000) (h : Scl sb p q w) :
    Calls Try.prog 25 #[.pointer (some ⟨sb, 0, none⟩), .slice a l.length cap] w (ToldS sb (sizL l) (p + lamL l) (max q (lonL l)) w) := by
  have hlen := hc.len
  have HL := hidd hc
  have IH := hidd ih
  have HOK : Hid (okL l ∧ sizL l ≤ 1000000000 ∧ p + lamL l ≤ 1000000000 ∧ lonL l ≤ 1000000000) := ⟨hok, hs, hp, hl⟩
  have HS0 := hidd h
  have hsl := h.lt
  clear hc ih hok h hs hp hl
  obtain ⟨sz, hsz⟩ : ∃ sz, sz = sizL l := ⟨_, rfl⟩
  obtain ⟨pp, hpp⟩ : ∃ pp, pp = p + lamL l := ⟨_, rfl⟩
  obtain ⟨qq, hqq⟩ : ∃ qq, qq = max q (lonL l) := ⟨_, rfl⟩
  rw [← hsz, ← hpp, ← hqq]
  have EQ : Hid (sz = sizL l ∧ pp = p + lamL l ∧ qq = max q (lonL l)) := ⟨hsz, hpp, hqq⟩
  clear hsz hpp hqq
  go_enter Try.func25, Try.ntmps25
  go_wp2_with fail
  go_loopw [5, 9] (fun v ix wr => ∃ j s : Nat, j ≤ l.length ∧ ix = .int .i64 j ∧ v = .int .i64 s ∧ s ≤ 1000000000 ∧ Hid (s = sizL (l.take j) ∧ Keep sb w wr ∧ Scl sb (p + lamL (l.take j)) (max q (lonL (l.take j))) wr)) (fun _ ix _ => l.length - (intOf ix).toNat)
  case atStart => exact ⟨0, 0, Nat.zero_le _, rfl, rfl, by omega, by rfl, Keep.refl _ _, by simpa [lamL, lonL] using HS0.out⟩
  case round =>
    clear HS0
    obtain ⟨j, s, hj, rfl, rfl, hs9, HR⟩ := hrel
    by_cases hlt : j < l.length
    · obtain ⟨c, hc⟩ : ∃ c, l[j]? = some c := ⟨l[j], List.getElem?_eq_getElem hlt⟩
      have hne : l ≠ [] := by intro e; rw [e] at hlt; simp at hlt
      obtain ⟨g', b, o, hg, ha, hall⟩ := (HL.out.below (HR.out.2.1.toBelow hB (by omega))).at hne
      obtain rfl : f = g' := by omega
      subst ha
      have b1 := sizL_more hc
      have b2 := lamL_more hc
      have b3 := lonL_more hc
      have t1 := sizL_take l (j + 1)
      have t2 := lamL_take l (j + 1)
      have t3 : lonL (l.take (j + 1)) ≤ lonL l := by
        have h := lonL_append (l.take (j + 1)) (l.drop (j + 1))
        rw [List.take_append_drop] at h
        omega
      have hkk := HOK.out
      have hse := HR.out.1
      have hsum : s + sizC c ≤ 1000000000 := by omega
      have CALL := hidd (IH.out hne b (o + j * 12) c (p + lamL (l.take j)) (max q (lonL (l.take j))) wr (hall j c hc) (okL_at l j c hkk.1 hc) (by omega) (by omega) (by omega) (by omega) HR.out.2.2)
      have NX : Hid (s + sizC c = sizL (l.take (j + 1)) ∧ p + lamL (l.take j) + lamC c = p + lamL (l.take (j + 1)) ∧ max (max q (lonL (l.take j))) (lonC c) = max q (lonL (l.take (j + 1)))) := ⟨by omega, by omega, by omega⟩
      have HKr := hidd HR.out.2.1
      clear hall hc hne b1 b2 b3 t1 t2 t3 hkk hse HR
      generalize p + lamL (l.take j) + lamC c = P at CALL NX
      generalize max (max q (lonL (l.take j))) (lonC c) = Q at CALL NX
      generalize sizC c = S at CALL NX hsum
      go_wp2_with fail
      refine CALL.out.mono ?_
      rintro e w2 ⟨rfl, hk2, hs2⟩
      obtain ⟨n1, n2, n3⟩ := NX.out
      have HE : Hid (s + S = sizL (l.take (j + 1)) ∧ Keep sb w w2 ∧ Scl sb (p + lamL (l.take (j + 1))) (max q (lonL (l.take (j + 1)))) w2) := ⟨n1, HKr.out.trans hk2, by rw [← n2, ← n3]; exact hs2⟩
      clear hk2 hs2 n1 n2 n3 NX HKr CALL
      go_wp2_with fail
      go_roundw
      case rel => exact ⟨j + 1, s + S, by omega, by go_num, by simp, hsum, HE.out⟩
      case measure => simp [intOf]; omega
    · obtain rfl : j = l.length := by omega
      rw [List.take_length] at HR
      obtain ⟨e1, e2, e3⟩ := EQ.out
      clear EQ IH HL HOK
      go_wp2_with fail
      go_ret
      exact ⟨by rw [e1, HR.out.1]; rfl, HR.out.2.1, by rw [e2, e3]; exact HR.out.2.2⟩

theorem sall_any (B sb : Nat) (hB : B ≤ sb) : ∀ (f : Nat) (l : List Cor) (a : Option Addr) (cap p q : Nat) (w : World), Cc B w f a l → l.length ≤ cap → okL l → sizL l ≤ 1000000000 → p + lamL l ≤ 1000000000 → q ≤ 1000000000 → lonL l ≤ 1000000000 → Scl sb p q w →
    Calls Try.prog 25 #[.pointer (some ⟨sb, 0, none⟩), .slice a l.length cap] w (ToldS sb (sizL l) (p + lamL l) (max q (lonL l)) w)
  | 0, l, a, cap, p, q, w, h, h1, h2, h3, h4, h5, h6, h7 => by
    have e : l = [] := h
    subst e
    exact sall_step B 0 sb hB [] (fun h => absurd rfl h) a cap p q w ⟨Nat.zero_le _, Or.inl rfl⟩ h1 h2 h3 h4 h5 h6 h7
  | f + 1, l, a, cap, p, q, w, h, h1, h2, h3, h4, h5, h6, h7 =>
    sall_step B f sb hB l (fun _ => score_step B f sb hB (sall_any B sb hB f)) a cap p q w h h1 h2 h3 h4 h5 h6 h7
end Go.Proofs.Ytbbmdhkbndgdkaa
