/- What the laws of chapter 5 use: data read, made, held against each other. -/
import Derived.Test.YtgeedaabdonjcaeGreatDoorK34
import Derived.Test.YtgeedaabdonjcaeGreatDoorK37
import Derived.Test.YtgeedaabdonjcaeGreatDoorK38
namespace Go.Proofs.YtgeedaabdonjcaeGreatDoor
set_option linter.unusedVariables false
set_option linter.unusedSimpArgs false
open Go.RowKit Go.Maps Go.WideMaps

theorem Dw.dc {ok : Nat → Prop} {w : World} : ∀ (f : Nat) (a : Option Addr) (cp : Nat) (ds : List Dat), Dw ok w f a cp ds → Dc ok w f a ds
  | 0, _, _, _, h => h
  | f + 1, a, cp, ds, h => by
    obtain ⟨hl, h⟩ := h
    refine ⟨hl.1, ?_⟩
    rcases h with h | ⟨b, o, ha, hb, h⟩
    · exact Or.inl h
    · refine Or.inr ⟨b, o, ha, hb, fun i d hd => ?_⟩
      obtain ⟨a', cap, c0, c1, c2, c3, c4, c5, hn, hk⟩ := h i d hd
      exact ⟨a', cap, c0, c1, c2, c3, c4, c5, hn, hk.cap, Dw.dc f a' _ _ hk⟩

/-- A datum that a call gives back, in memory of its own. -/
def ToldO (d : Dat) (w : World) (e : Ending) (w' : World) : Prop :=
  Below w.heap.size w w' ∧ ∃ a cap f, e = .returned (dv d a cap) ∧ d.kids.length ≤ cap ∧ Dc (New w w') w' f a d.kids

theorem ret18 {ts : Array Value} {W : World} {R : Nat} {d : Dat} {v : Value} (h : Nod R d v W) (h6 : ts[2]? = some (.pointer (some ⟨R, 0, none⟩))) :
    (results Tryz.f18 ts).run Tryz.prog W = .ok (.agg #[.int .i64 d.kind, .int .i64 d.n, .string d.name, .int .i64 d.stamp, .int .i64 d.lib, v]) W := by
  obtain ⟨q, q0, q1, q2, q3, q4, q5, qz⟩ := h
  simp [results, Tryz.results18, go_sem, h6, q0, q1, q2, q3, q4, q5]
theorem ret19 {ts : Array Value} {W : World} {R : Nat} {d : Dat} {v : Value} (h : Nod R d v W) (h6 : ts[2]? = some (.pointer (some ⟨R, 0, none⟩))) :
    (results Tryz.f19 ts).run Tryz.prog W = .ok (.agg #[.int .i64 d.kind, .int .i64 d.n, .string d.name, .int .i64 d.stamp, .int .i64 d.lib, v]) W := by
  obtain ⟨q, q0, q1, q2, q3, q4, q5, qz⟩ := h
  simp [results, Tryz.results19, go_sem, h6, q0, q1, q2, q3, q4, q5]
theorem ret20 {ts : Array Value} {W : World} {R : Nat} {d : Dat} {v : Value} (h : Nod R d v W) (h6 : ts[2]? = some (.pointer (some ⟨R, 0, none⟩))) :
    (results Tryz.f20 ts).run Tryz.prog W = .ok (.agg #[.int .i64 d.kind, .int .i64 d.n, .string d.name, .int .i64 d.stamp, .int .i64 d.lib, v]) W := by
  obtain ⟨q, q0, q1, q2, q3, q4, q5, qz⟩ := h
  simp [results, Tryz.results20, go_sem, h6, q0, q1, q2, q3, q4, q5]
theorem ret21 {ts : Array Value} {W : World} {R : Nat} {d : Dat} {v : Value} (h : Nod R d v W) (h6 : ts[2]? = some (.pointer (some ⟨R, 0, none⟩))) :
    (results Tryz.f21 ts).run Tryz.prog W = .ok (.agg #[.int .i64 d.kind, .int .i64 d.n, .string d.name, .int .i64 d.stamp, .int .i64 d.lib, v]) W := by
  obtain ⟨q, q0, q1, q2, q3, q4, q5, qz⟩ := h
  simp [results, Tryz.results21, go_sem, h6, q0, q1, q2, q3, q4, q5]

set_option maxHeartbeats 800000 in
theorem List_any (l : List Dat) (a : Option Addr) (cap : Nat) (w : World) : Calls Tryz.prog 19 #[.slice a l.length cap] w fun e w' => e = .returned (dv (listD l) a cap) ∧ Below w.heap.size w w' := by
  go_enter Tryz.func19, Tryz.ntmps19
  go_wp2_with fail
  refine bodyPost_ret (ret19 (d := ⟨4, 0, ⟨#[]⟩, 0, 0, []⟩) (v := .slice a l.length cap) (Nod.made w ⟨4, 0, ⟨#[]⟩, 0, 0, []⟩ _) rfl) rfl ?_
  exact ⟨rfl, (Below.refl _ _).alloc (Nat.le_refl _) _⟩
set_option maxHeartbeats 800000 in
theorem Num_any (n : Int) (w : World) : Calls Tryz.prog 20 #[.int .i64 n] w fun e w' => e = .returned (dv (numD n) none 0) ∧ Below w.heap.size w w' := by
  go_enter Tryz.func20, Tryz.ntmps20
  go_wp2_with fail
  refine bodyPost_ret (ret20 (d := ⟨1, n, ⟨#[]⟩, 0, 0, []⟩) (v := .slice none 0 0) (Nod.made w ⟨1, n, ⟨#[]⟩, 0, 0, []⟩ _) rfl) rfl ?_
  exact ⟨rfl, (Below.refl _ _).alloc (Nat.le_refl _) _⟩
set_option maxHeartbeats 800000 in
theorem Sym_any (s : ByteArray) (w : World) : Calls Tryz.prog 21 #[.string s] w fun e w' => e = .returned (dv (symD s) none 0) ∧ Below w.heap.size w w' := by
  go_enter Tryz.func21, Tryz.ntmps21
  go_wp2_with fail
  refine bodyPost_ret (ret21 (d := ⟨3, 0, s, 0, 0, []⟩) (v := .slice none 0 0) (Nod.made w ⟨3, 0, s, 0, 0, []⟩ _) rfl) rfl ?_
  exact ⟨rfl, (Below.refl _ _).alloc (Nat.le_refl _) _⟩

set_option maxRecDepth 100000 in
set_option maxHeartbeats 1600000 in
theorem one_any (s : ByteArray) (d : Dat) (hs : s.size ≤ maxLen) (hr : readL s.data.toList = .inr [d]) (w : World) : Calls Tryz.prog 18 #[.string s] w (ToldO d w) := by
  have RD : Hid (∀ W, Calls Tryz.prog 40 #[.string s] W (OutR (.inr [d]) W)) := fun W => by
    have := Read_any s W hs
    rw [hr] at this
    exact this
  have N0 : Hid (Nod w.heap.size ⟨0, 0, ⟨#[]⟩, 0, 0, []⟩ (.slice none 0 0) _) := Nod.made w ⟨0, 0, ⟨#[]⟩, 0, 0, []⟩ (.slice none 0 0)
  go_enter Tryz.func18, Tryz.ntmps18
  go_wp2_with fail
  refine (RD.out _).mono ?_
  rintro e w1 ⟨hb1, a1, cap1, f1, rfl, hdw⟩
  have hN1 := N0.out.after hb1
  have hsz : w.heap.size + 1 ≤ w1.heap.size := by have := hb1.size; simpa using this
  have HB : Hid (Below w.heap.size w w1) := ((Below.refl _ _).alloc (Nat.le_refl _) _).trans (hb1.mono (by simp))
  have hdc := Dw.dc _ _ _ _ hdw
  obtain ⟨f', b, o, rfl, rfl, hbB, hall⟩ : ∃ f' b o, f1 = f' + 1 ∧ a1 = some ⟨b, o, none⟩ ∧ New (w.alloc (.cells #[.int .i64 0, .int .i64 0, .string ⟨#[]⟩, .int .i64 0, .int .i64 0, .slice none 0 0] 28)) w1 b ∧ ∀ (i : Nat) (x : Dat), [d][i]? = some x → ∃ a' cap, w1.cell? ⟨b, o + i * 6, none⟩ = some (.int .i64 x.kind) ∧ w1.cell? ⟨b, o + i * 6 + 1, none⟩ = some (.int .i64 x.n) ∧ w1.cell? ⟨b, o + i * 6 + 2, none⟩ = some (.string x.name) ∧
      w1.cell? ⟨b, o + i * 6 + 3, none⟩ = some (.int .i64 x.stamp) ∧ w1.cell? ⟨b, o + i * 6 + 4, none⟩ = some (.int .i64 x.lib) ∧ w1.cell? ⟨b, o + i * 6 + 5, none⟩ = some (.slice a' x.kids.length cap) ∧
      x.name.size ≤ maxLen ∧ x.kids.length ≤ cap ∧ Dc (New (w.alloc (.cells #[.int .i64 0, .int .i64 0, .string ⟨#[]⟩, .int .i64 0, .int .i64 0, .slice none 0 0] 28)) w1) w1 f' a' x.kids := by
    cases f1 with
    | zero => cases hdc
    | succ f' =>
      obtain ⟨_, h | ⟨b, o, h1, h2, h3⟩⟩ := hdc
      · cases h
      · exact ⟨f', b, o, rfl, h1, h2, h3⟩
  obtain ⟨a', cap', c0, c1, c2, c3, c4, c5, hn, hc, hk⟩ := hall 0 d rfl
  have HK : Hid (d.kids.length ≤ cap' ∧ Dc (New (w.alloc (.cells #[.int .i64 0, .int .i64 0, .string ⟨#[]⟩, .int .i64 0, .int .i64 0, .slice none 0 0] 28)) w1) w1 f' a' d.kids) := ⟨hc, hk⟩
  have W2 : Hid (∀ q, (w1.alloc (.cells #[.int .i64 0, .int .i64 0] 38)).cell? ⟨b, q, none⟩ = w1.cell? ⟨b, q, none⟩) := fun q => ((Below.refl _ _).alloc (Nat.le_refl _) _ : Below w1.heap.size w1 (w1.alloc (.cells #[.int .i64 0, .int .i64 0] 38))).cell (p := ⟨b, q, none⟩) hbB.2
  have NW : Hid (Nod w.heap.size ⟨0, 0, ⟨#[]⟩, 0, 0, []⟩ (.slice none 0 0) (w1.alloc (.cells #[.int .i64 0, .int .i64 0] 38))) := hN1.alloc _
  simp only [Nat.zero_mul, Nat.add_zero] at c0 c1 c2 c3 c4 c5
  have k0 := (W2.out _).trans c0
  have k1 := (W2.out _).trans c1
  have k2 := (W2.out _).trans c2
  have k3 := (W2.out _).trans c3
  have k4 := (W2.out _).trans c4
  have k5 := (W2.out _).trans c5
  obtain ⟨q, q0, q1, q2, q3, q4, q5, qz⟩ := NW.out
  simp only at q0 q1 q2 q3 q4 q5
  clear hall hdc hdw hb1 hN1 hc hk hn c0 c1 c2 c3 c4 c5
  unfold fv
  go_wp2_with fail
  refine bodyPost_ret (ret18 (NW.out.store d (.slice a' d.kids.length cap')) rfl) rfl ?_
  have hh := six_heap (w1.alloc (.cells #[.int .i64 0, .int .i64 0] 38)) w.heap.size (.int .i64 d.kind) (.int .i64 d.n) (.string d.name) (.int .i64 d.stamp) (.int .i64 d.lib) (.slice a' d.kids.length cap')
  refine ⟨?_, a', cap', f', rfl, HK.out.1, ?_⟩
  · have h1 : Below w.heap.size w (w1.alloc (.cells #[.int .i64 0, .int .i64 0] 38)) := HB.out.alloc (by omega) _
    exact (((((h1.setCell (p := ⟨w.heap.size, 0, none⟩) (Nat.le_refl _) _).setCell (p := ⟨w.heap.size, 1, none⟩) (Nat.le_refl _) _).setCell (p := ⟨w.heap.size, 2, none⟩) (Nat.le_refl _) _).setCell (p := ⟨w.heap.size, 3, none⟩) (Nat.le_refl _) _).setCell (p := ⟨w.heap.size, 4, none⟩) (Nat.le_refl _) _).setCell (p := ⟨w.heap.size, 5, none⟩) (Nat.le_refl _) _
  · refine Dc.stay (fun k hk => ?_) (fun k hk => ⟨?_, ?_⟩) f' _ _ HK.out.2
    · have h1 := hk.1
      simp at h1
      exact (hh.1 k (by omega)).trans (Below.heap_alloc _ _ _ hk.2)
    · have h1 := hk.1
      simp at h1
      omega
    · rw [hh.2]
      simp
      have := hk.2
      omega

theorem bareD_kind (d : Dat) : (bareD d).kind = d.kind := by
  obtain ⟨k, n, nm, st, lb, ks⟩ := d
  rw [bareD]
  split
  · rename_i h; exact h.symm
  · split
    · rename_i h; exact h.symm
    · split <;> rfl

theorem alike_kid {f : Nat} {d e : Dat} (ih : bareL d.kids = bareL e.kids → Alike f d.kids e.kids) (h : bareD d = bareD e) : AlikeD (Alike f) d e := by
  have hk : d.kind = e.kind := by rw [← bareD_kind d, h, bareD_kind]
  obtain ⟨k, n, nm, st, lb, ks⟩ := d
  obtain ⟨k', n', nm', st', lb', ks'⟩ := e
  simp only at hk ih
  subst hk
  refine ⟨rfl, fun h1 => ?_, fun h3 => ?_, fun h4 => ?_⟩
  · simp only at h1
    have h4 : k ≠ 4 := by omega
    have h3 : k ≠ 3 := by omega
    rw [bareD, bareD, if_neg h4, if_neg h3, if_pos h1, if_neg h4, if_neg h3, if_pos h1] at h
    exact (Dat.mk.inj h).2.1
  · simp only at h3
    subst h3
    rw [bareD, bareD, if_neg (by decide), if_pos rfl, if_neg (by decide), if_pos rfl] at h
    have := Dat.mk.inj h
    exact ⟨this.2.2.1, this.2.2.2.1, this.2.2.2.2.1⟩
  · simp only at h4
    subst h4
    rw [bareD, bareD, if_pos rfl, if_pos rfl] at h
    exact ih (Dat.mk.inj h).2.2.2.2.2

theorem alike_bare {B : Nat} {w : World} : ∀ (f : Nat) (a : Option Addr) (xs ys : List Dat), Lies B w f a xs → bareL xs = bareL ys → Alike f xs ys
  | 0, a, xs, ys, hl, h => by
    have e : xs = [] := hl
    subst e
    refine ⟨rfl, ?_⟩
    rw [bareL, bareL_map] at h
    simpa using h.symm
  | f + 1, a, xs, ys, hl, h => by
    rw [bareL_map, bareL_map] at h
    have hlen := congrArg List.length h
    rw [List.length_map, List.length_map] at hlen
    refine ⟨hlen, fun i d e hd he => ?_⟩
    have hb : bareD d = bareD e := by
      have := congrArg (fun l => l[i]?) h
      simp only [List.getElem?_map, hd, he] at this
      exact Option.some.inj this
    have hne : xs ≠ [] := by
      intro e
      subst e
      cases hd
    obtain ⟨f', b, o, hf, ha, hbB, hall⟩ := hl.at hne
    obtain ⟨a', cap', _, _, _, _, _, _, _, hk⟩ := hall i d hd
    have : f' = f := by omega
    subst this
    exact alike_kid (fun hq => alike_bare f' a' _ _ hk hq) hb

/-- Data that say the same are the same. -/
theorem Equal_bare (B f g : Nat) (d e : Dat) (a a2 : Option Addr) (cap cap2 : Nat) (w : World) (hB : B ≤ w.heap.size) (hl : Lies B w f a d.kids) (hm : Lies B w g a2 e.kids) (h : bareD d = bareD e) :
    Calls Tryz.prog 12 #[dv d a cap, dv e a2 cap2] w (Yes w) :=
  Equal_any B f g d e a a2 cap cap2 w hB hl hm (alike_kid (fun hq => alike_bare f a _ _ hl hq) h) fun g xs ys a b cap cb w hB hl hm hx => Same_any B f g xs ys a b cap cb w hB hl hm hx
end Go.Proofs.YtgeedaabdonjcaeGreatDoor
