/- Chapter 3: names of data. Chapter 3: names in a row. -/
import Derived.RegionDies
import Derived.Test.YtonafbennobgdaaGreatDoorK10
namespace Go.Proofs.YtonafbennobgdaaGreatDoor
section
set_option linter.unusedVariables false
set_option linter.unusedSimpArgs false
open Go.RowKit

set_option maxRecDepth 100000 in
set_option maxHeartbeats 1600000 in
theorem cloneT_any (s : ByteArray) (w : World) (hs : s.size ≤ 281474976710656) : Calls Tryz.prog 89 #[.string s] w fun e w' => e = .returned (.string s) ∧ Below w.heap.size w w' := by
  have HC := hidd (Tryz.stringslite_Clone s w hs)
  clear hs
  go_enter Tryz.func89, Tryz.ntmps89
  go_wp2_with fail
  refine HC.out.mono ?_
  rintro e w1 ⟨rfl, hb⟩
  have HB := hidd hb
  clear hb
  go_wp2_with fail
  go_ret
  exact ⟨rfl, HB.out⟩
/-- The six cells of a datum that was handed in, boxed. -/
def dcs (d : Dat) (a : Option Addr) (cap : Nat) : Array Value := #[.int .i64 d.kind, .int .i64 d.n, .string d.name, .int .i64 d.stamp, .int .i64 d.lib, .slice a d.kids.length cap]
set_option maxRecDepth 100000 in
set_option maxHeartbeats 1600000 in
theorem nameOf_any (d : Dat) (a : Option Addr) (cap : Nat) (w : World) (hs : d.kind = 3 → d.name.size ≤ 281474976710656) : Calls Tryz.prog 78 #[dv d a cap] w (ToldE (nameF d) (fun s v _ => v = .string s) w) := by
  have HB : Hid (Below w.heap.size w (w.alloc (.cells #[.int .i64 d.kind, .int .i64 d.n, .string d.name, .int .i64 d.stamp, .int .i64 d.lib, .slice a d.kids.length cap] 26))) := (Below.refl _ _).alloc (Nat.le_refl _) _
  have HY := hidd (must_yes 2)
  have HN := hidd (must_no 2)
  have HC : Hid (d.kind = 3 → ∀ w, Calls Tryz.prog 89 #[.string d.name] w fun e w' => e = .returned (.string d.name) ∧ Below w.heap.size w w') := fun h w => cloneT_any d.name w (hs h)
  clear hs
  unfold nameF dv
  generalize d.kids.length = n at *
  by_cases h1 : d.kind = 3
  · have c1 : (d.kind == 3) = true := by simpa using h1
    rw [if_pos h1]
    have HC := hidd (HC.out h1)
    clear h1
    go_enter Tryz.func78, Tryz.ntmps78
    go_wp2_with fail
    refine (HY.out _).mono ?_
    rintro e w1 ⟨rfl, rfl⟩
    go_wp2_with fail
    refine (HC.out _).mono ?_
    rintro e w2 ⟨rfl, hb⟩
    have HB2 : Hid (Below w.heap.size w w2) := HB.out.trans (hb.mono HB.out.size)
    clear hb
    go_wp2_with fail
    go_ret
    exact ⟨HB2.out, _, rfl, rfl⟩
  · rw [if_neg h1]
    have c1 : (d.kind == 3) = false := by simpa using h1
    clear h1
    go_enter Tryz.func78, Tryz.ntmps78
    go_wp2_with fail
    refine (HN.out _).mono ?_
    rintro e w1 ⟨rfl, rfl⟩
    go_wp2_with fail
    exact ⟨rfl, HB.out, rfl⟩
/-- A datum that lies at b, o. -/
structure DAt (ok : Nat → Prop) (w : World) (b o : Nat) (d : Dat) (a : Option Addr) (cap : Nat) : Prop where
  hb : ok b
  c0 : w.cell? ⟨b, o, none⟩ = some (.int .i64 d.kind)
  c1 : w.cell? ⟨b, o + 1, none⟩ = some (.int .i64 d.n)
  c2 : w.cell? ⟨b, o + 2, none⟩ = some (.string d.name)
  c3 : w.cell? ⟨b, o + 3, none⟩ = some (.int .i64 d.stamp)
  c4 : w.cell? ⟨b, o + 4, none⟩ = some (.int .i64 d.lib)
  c5 : w.cell? ⟨b, o + 5, none⟩ = some (.slice a d.kids.length cap)
  ln : d.name.size ≤ maxLen
  lk : d.kids.length ≤ cap
/-- The datum at a place of a row. -/
theorem Dc.at {ok : Nat → Prop} {w : World} {f : Nat} {a : Option Addr} {ds : List Dat} (h : Dc ok w f a ds) {i : Nat} {d : Dat} (hi : ds[i]? = some d) : ∃ g b o a' cap, f = g + 1 ∧ a = some ⟨b, o, none⟩ ∧ DAt ok w b (o + i * 6) d a' cap ∧ Dc ok w g a' d.kids := by
  cases f with
  | zero => rw [show ds = [] from h] at hi; simp at hi
  | succ g =>
    obtain ⟨hl, h⟩ := h
    rcases h with h | ⟨b, o, ha, hb, h⟩
    · rw [h] at hi; simp at hi
    · obtain ⟨a', cap, h0, h1, h2, h3, h4, h5, h6, h7, h8⟩ := h i d hi
      exact ⟨g, b, o, a', cap, rfl, ha, ⟨hb, h0, h1, h2, h3, h4, h5, h6, h7⟩, h8⟩
theorem Dc.len {ok : Nat → Prop} {w : World} {f : Nat} {a : Option Addr} {ds : List Dat} (h : Dc ok w f a ds) : ds.length ≤ 9223372036854775807 := by
  cases f with
  | zero => rw [show ds = [] from h]; exact Nat.zero_le _
  | succ g => exact h.1
theorem Dc.below {B : Nat} {w w' : World} {f : Nat} {a : Option Addr} {ds : List Dat} (h : Dc (fun k => k < B) w f a ds) (hb : Below B w w') : Dc (fun k => k < B) w' f a ds := Dc.stay (fun k hk => hb.block k hk) (fun _ h => h) f a ds h
theorem Dc.mono {B B' : Nat} {w : World} {f : Nat} {a : Option Addr} {ds : List Dat} (h : Dc (fun k => k < B) w f a ds) (hB : B ≤ B') : Dc (fun k => k < B') w f a ds := Dc.stay (fun _ _ => rfl) (fun _ hk => Nat.lt_of_lt_of_le hk hB) f a ds h
theorem DAt.below {B : Nat} {w w' : World} {b o : Nat} {d : Dat} {a : Option Addr} {cap : Nat} (h : DAt (fun k => k < B) w b o d a cap) (hb : Below B w w') : DAt (fun k => k < B) w' b o d a cap := by
  have e : ∀ q, w'.cell? ⟨b, q, none⟩ = w.cell? ⟨b, q, none⟩ := fun q => hb.cell (p := ⟨b, q, none⟩) h.hb
  exact ⟨h.hb, (e _).trans h.c0, (e _).trans h.c1, (e _).trans h.c2, (e _).trans h.c3, (e _).trans h.c4, (e _).trans h.c5, h.ln, h.lk⟩
/-- The row without its first. -/
theorem Dc.tail {ok : Nat → Prop} {w : World} {f : Nat} {b o : Nat} {x : Dat} {r : List Dat} (h : Dc ok w f (some ⟨b, o, none⟩) (x :: r)) : Dc ok w f (some ⟨b, o + 6, none⟩) r := by
  cases f with
  | zero => cases (show x :: r = [] from h)
  | succ g =>
    obtain ⟨hl, h⟩ := h
    refine ⟨by simp at hl; omega, ?_⟩
    rcases h with h | ⟨b', o', ha, hb, h⟩
    · cases h
    · cases ha
      refine Or.inr ⟨b, o + 6, rfl, hb, fun i d hi => ?_⟩
      have := h (i + 1) d (by simpa using hi)
      rw [show o + (i + 1) * 6 = o + 6 + i * 6 by omega] at this
      exact this
set_option maxRecDepth 100000 in
set_option maxHeartbeats 3200000 in
/-- form: where the list is none, or empty. -/
theorem form_none (d : Dat) (a : Option Addr) (cap : Nat) (w : World) (h : thingsF d = .no 2) : Calls Tryz.prog 53 #[dv d a cap] w fun e w' => Below w.heap.size w w' ∧ e = .panicked (thrownL 2) := by
  have HT := hidd (fun w => things_any d a cap w)
  rw [h] at HT
  unfold ToldE at HT
  simp only at HT
  have HB : Hid (Below w.heap.size w (w.alloc (.cells #[.int .i64 d.kind, .int .i64 d.n, .string d.name, .int .i64 d.stamp, .int .i64 d.lib, .slice a d.kids.length cap] 26))) := (Below.refl _ _).alloc (Nat.le_refl _) _
  clear h
  unfold dv at *
  generalize d.kids.length = n at *
  go_enter Tryz.func53, Tryz.ntmps53
  go_wp2_with fail
  refine (HT.out _).mono ?_
  rintro e w1 ⟨hb, rfl⟩
  have HB1 : Hid (Below w.heap.size w w1) := HB.out.trans (hb.mono HB.out.size)
  clear hb
  go_wp2_with fail
  exact ⟨rfl, HB1.out, rfl⟩
set_option maxRecDepth 100000 in
set_option maxHeartbeats 3200000 in
/-- form: a list that has something. -/
theorem form_some (B : Nat) (d x : Dat) (r : List Dat) (b o cap xc : Nat) (xa : Option Addr) (w : World) (hB : B ≤ w.heap.size) (hk : d.kind = 4) (hd : d.kids = x :: r) (hx : DAt (fun k => k < B) w b o x xa xc) (hc : d.kids.length ≤ cap) (hs : x.kind = 3 → x.name.size ≤ 281474976710656) :
    Calls Tryz.prog 53 #[dv d (some ⟨b, o, none⟩) cap] w (ToldE (nameF x) (fun s v _ => v = .tuple #[.string s, .slice (some ⟨b, if cap = 1 then o else o + 6, none⟩) r.length (cap - 1)]) w) := by
  have HT : Hid (∀ w, Calls Tryz.prog 77 #[dv d (some ⟨b, o, none⟩) cap] w fun e w' => Below w.heap.size w w' ∧ e = .returned (.slice (some ⟨b, o, none⟩) d.kids.length cap)) := fun w => (things_any d (some ⟨b, o, none⟩) cap w).mono (by
    rintro e w' ⟨h1, h2⟩
    unfold thingsF at h2
    rw [if_pos ⟨hk, by rw [hd]; simp⟩] at h2
    obtain ⟨v, rfl, rfl, _⟩ := h2
    exact ⟨h1, rfl⟩)
  by_cases h3 : x.kind = 3
  case pos =>
   have HNM : Hid (∀ w, Calls Tryz.prog 78 #[dv x xa xc] w fun e w' => Below w.heap.size w w' ∧ e = .returned (.string x.name)) := fun w => (nameOf_any x xa xc w hs).mono (by
    rintro e w' ⟨h1, h2⟩
    unfold nameF at h2
    rw [if_pos h3] at h2
    obtain ⟨v, rfl, rfl⟩ := h2
    exact ⟨h1, rfl⟩)
   unfold nameF
   rw [if_pos h3]
   have HB : Hid (Below w.heap.size w (w.alloc (.cells #[.int .i64 d.kind, .int .i64 d.n, .string d.name, .int .i64 d.stamp, .int .i64 d.lib, .slice (some ⟨b, o, none⟩) d.kids.length cap] 26))) := (Below.refl _ _).alloc (Nat.le_refl _) _
   have HX : Hid (∀ W, Below w.heap.size w W → DAt (fun k => k < B) W b o x xa xc) := fun W hb => hx.below (hb.mono hB)
   have HL : Hid (d.kids.length = r.length + 1) := by show _ = _; rw [hd]; rfl
   have hl1 : 1 ≤ d.kids.length := by rw [hd]; simp
   clear hk hd hx hs hB h3
   unfold dv at *
   generalize d.kids.length = n at *
   have hl2 : 0 < n := hl1
   have q1 : (1 : Int) ≤ (n : Int) := by omega
   have q2 : (n : Int) ≤ (cap : Int) := by omega
   have q3 : (0 : Int) < (n : Int) := by omega
   go_enter Tryz.func53, Tryz.ntmps53
   go_wp2_with fail
   refine (HT.out _).mono ?_
   rintro e w1 ⟨hb, rfl⟩
   have HB1 : Hid (Below w.heap.size w w1) := HB.out.trans (hb.mono HB.out.size)
   clear hb
   obtain ⟨_, c0, c1, c2, c3, c4, c5, _, _⟩ := HX.out w1 HB1.out
   generalize x.kids.length = xn at *
   go_wp2_with fail
   by_cases hcap : cap = 1
   · subst hcap
     obtain rfl : n = 1 := by omega
     go_region_with (go_at_call 78; refine (HNM.out _).mono ?_; rintro e w2 ⟨hb2, rfl⟩)
     all_goals
       have HB2 : Hid (Below w.heap.size w w2) := HB1.out.trans ((Below.drew (Below.refl _ _)).trans (hb2.mono (Nat.le_refl _)) |>.mono HB1.out.size)
       clear hb2
       go_wp2_with fail
       refine bodyPost_ret (v := .tuple #[.string x.name, .slice (some ⟨b, o, none⟩) 0 0]) (by simp [results, Tryz.results53]) rfl ⟨HB2.out, _, rfl, ?_⟩
       rw [show r.length = 0 from by have := HL.out; omega]
   · go_region_with (go_at_call 78; refine (HNM.out _).mono ?_; rintro e w2 ⟨hb2, rfl⟩)
     all_goals
       have HB2 : Hid (Below w.heap.size w w2) := HB1.out.trans ((Below.drew (Below.refl _ _)).trans (hb2.mono (Nat.le_refl _)) |>.mono HB1.out.size)
       clear hb2
       go_wp2_with fail
       refine bodyPost_ret (v := .tuple #[.string x.name, .slice (some ⟨b, o + 6, none⟩) (n - 1) (cap - 1)]) (by simp [results, Tryz.results53]) rfl ⟨HB2.out, _, rfl, ?_⟩
       rw [show r.length = n - 1 from by have := HL.out; omega]
  case neg =>
   have HNM : Hid (∀ w, Calls Tryz.prog 78 #[dv x xa xc] w fun e w' => Below w.heap.size w w' ∧ e = .panicked (thrownL 2)) := fun w => (nameOf_any x xa xc w hs).mono (by
    rintro e w' ⟨h1, h2⟩
    unfold nameF at h2
    rw [if_neg h3] at h2
    exact ⟨h1, h2⟩)
   unfold nameF
   rw [if_neg h3]
   have HB : Hid (Below w.heap.size w (w.alloc (.cells #[.int .i64 d.kind, .int .i64 d.n, .string d.name, .int .i64 d.stamp, .int .i64 d.lib, .slice (some ⟨b, o, none⟩) d.kids.length cap] 26))) := (Below.refl _ _).alloc (Nat.le_refl _) _
   have HX : Hid (∀ W, Below w.heap.size w W → DAt (fun k => k < B) W b o x xa xc) := fun W hb => hx.below (hb.mono hB)
   have HL : Hid (d.kids.length = r.length + 1) := by show _ = _; rw [hd]; rfl
   have hl1 : 1 ≤ d.kids.length := by rw [hd]; simp
   clear hk hd hx hs hB h3
   unfold dv at *
   generalize d.kids.length = n at *
   have hl2 : 0 < n := hl1
   have q1 : (1 : Int) ≤ (n : Int) := by omega
   have q2 : (n : Int) ≤ (cap : Int) := by omega
   have q3 : (0 : Int) < (n : Int) := by omega
   go_enter Tryz.func53, Tryz.ntmps53
   go_wp2_with fail
   refine (HT.out _).mono ?_
   rintro e w1 ⟨hb, rfl⟩
   have HB1 : Hid (Below w.heap.size w w1) := HB.out.trans (hb.mono HB.out.size)
   clear hb
   obtain ⟨_, c0, c1, c2, c3, c4, c5, _, _⟩ := HX.out w1 HB1.out
   generalize x.kids.length = xn at *
   go_wp2_with fail
   by_cases hcap : cap = 1
   · subst hcap
     go_region_dies
     all_goals
       refine (HNM.out _).mono ?_
       rintro e w2 ⟨hb2, rfl⟩
       have HB2 : Hid (Below w.heap.size w w2) := HB1.out.trans ((Below.drew (Below.refl _ _)).trans (hb2.mono (Nat.le_refl _)) |>.mono HB1.out.size)
       clear hb2
       go_wp2_with fail
       exact ⟨rfl, HB2.out, rfl⟩
   · go_region_dies
     all_goals
       refine (HNM.out _).mono ?_
       rintro e w2 ⟨hb2, rfl⟩
       have HB2 : Hid (Below w.heap.size w w2) := HB1.out.trans ((Below.drew (Below.refl _ _)).trans (hb2.mono (Nat.le_refl _)) |>.mono HB1.out.size)
       clear hb2
       go_wp2_with fail
       exact ⟨rfl, HB2.out, rfl⟩
end
section
set_option linter.unusedVariables false
set_option linter.unusedSimpArgs false
open Go.RowKit

theorem infoStr : (Tryz.prog.info? 9).map (fun i => (i.zero, i.size, i.bytes)) = some (some (.string ⟨#[]⟩), 1, 16) := by kernel_rfl
theorem info_partsL {t : TypeId} {z : Value} {s b : Nat} (h : (Tryz.prog.info? t).map (fun i => (i.zero, i.size, i.bytes)) = some (some z, s, b)) : ∃ i, Tryz.prog.info? t = some i ∧ i.zero = some z ∧ i.size = s ∧ i.bytes = b := by
  cases hi : Tryz.prog.info? t with
  | none => rw [hi] at h; cases h
  | some i =>
    rw [hi] at h
    simp at h
    exact ⟨i, rfl, h.1, h.2.1, h.2.2⟩
theorem cellO {w : World} {N q : Nat} {cs : Array Value} {t : TypeId} (h : w.heap[N]? = some (.cells cs t (0, 0))) : w.cell? ⟨N, q, none⟩ = cs[q]? := by simp [World.cell?, h]
theorem looseO {w : World} {N q : Nat} {cs : Array Value} {t : TypeId} (h : w.heap[N]? = some (.cells cs t (0, 0))) : w.frozen? ⟨N, q, none⟩ = false := by simp [World.frozen?, h]
theorem one_newsS (w : World) (v : Value) (t : TypeId) : ∀ j u, [v][j]? = some u → (w.alloc (.cells #[v] t)).cell? ((⟨w.heap.size, 0, none⟩ : Addr).add j) = some u := by
  intro j u hj
  rw [addr_add]
  match j, hj with
  | 0, hj =>
    simp at hj
    subst hj
    exact (cellO (World.alloc_heap_new w _)).trans rfl
  | n + 1, hj => simp at hj
theorem own_sliceL {w : World} {base size n : Nat} {e : TypeId} {v : Value} {xs : List Value} (h : w.ownsRow base e size v n xs) : ∃ va vc, v = .slice va n vc ∧ n ≤ vc := by
  rcases h.2 with ⟨rfl, rfl⟩ | ⟨g, cap, cur, rfl, hbg, hg, hnc, hcm, hcs, htake⟩
  · exact ⟨none, 0, rfl, Nat.le_refl _⟩
  · exact ⟨_, cap, rfl, hnc⟩
theorem own_typeL {w : World} {base size n : Nat} {e : TypeId} {v : Value} {xs : List Value} (h : w.ownsRow base e size v n xs) : ∀ g, v.ownBlock = some g → base ≤ g ∧ g < w.heap.size ∧ ∃ cs, w.heap[g]? = some (.cells cs e (0, 0)) := by
  intro g hg
  rcases h.2 with ⟨rfl, rfl⟩ | ⟨g', cap, cur, rfl, hbg, hgg, _⟩
  · cases hg
  · cases hg
    exact ⟨hbg, (Array.getElem?_eq_some_iff.1 hgg).1, _, hgg⟩
theorem own_keepL {w w' : World} {B size n : Nat} {t : TypeId} {v : Value} {xs : List Value} (h : w.ownsRow B t size v n xs) (hk : ∀ g, v.ownBlock = some g → w'.heap[g]? = w.heap[g]?) : w'.ownsRow B t size v n xs := by
  refine ⟨h.1, ?_⟩
  rcases h.2 with hn | ⟨g, cap, cur, rfl, hb, hgg, rest⟩
  · exact .inl hn
  · exact .inr ⟨g, cap, cur, rfl, hb, (hk g rfl).trans hgg, rest⟩
theorem own_below {w w' : World} {B size n : Nat} {t : TypeId} {v : Value} {xs : List Value} (h : w.ownsRow B t size v n xs) (hb : Below w.heap.size w w') : w'.ownsRow B t size v n xs := own_keepL h fun g hg => hb.block g (own_typeL h g hg).2.1
/-- What grows by a row of the call's own keeps what was there ahead of the call. -/
theorem grown_below {B : Nat} {w w' : World} {r : Option Nat} (hg : w.grownBy w' r) (hB : B ≤ w.heap.size) (hr : ∀ g, r = some g → B ≤ g) : Below B w w' :=
  ⟨hg.os, hg.tape, hg.output, hg.size, fun k hk => hg.block k (by omega) (fun e => by have := hr k e.symm; omega)⟩
/-- Names in memory: a row of the call's own. -/
def StrR (B : Nat) (l : List ByteArray) (v : Value) (w : World) : Prop := w.ownsRow B 9 1 v l.length (l.map Value.string)
theorem namesF_at {ds : List Dat} {j : Nat} {d : Dat} (h : ds[j]? = some d) : namesF (ds.drop j) = (nameF d).bind fun n => (namesF (ds.drop (j + 1))).bind fun l => .ok (n :: l) := by
  obtain ⟨hi, e⟩ := List.getElem?_eq_some_iff.1 h
  rw [List.drop_eq_getElem_cons hi, e, namesF]
theorem namesF_step {ds : List Dat} {j : Nat} {d : Dat} {l : List ByteArray} (h : ds[j]? = some d) (hk : d.kind = 3) (hl : namesF ds = (namesF (ds.drop j)).bind fun r => .ok (l ++ r)) : namesF ds = (namesF (ds.drop (j + 1))).bind fun r => .ok (l ++ [d.name] ++ r) := by
  rw [hl, namesF_at h]
  unfold nameF
  rw [if_pos hk]
  simp only [Er.bind]
  cases namesF (ds.drop (j + 1)) with
  | no e => rfl
  | ok r => simp
theorem namesF_bad {ds : List Dat} {j : Nat} {d : Dat} {l : List ByteArray} (h : ds[j]? = some d) (hk : ¬ d.kind = 3) (hl : namesF ds = (namesF (ds.drop j)).bind fun r => .ok (l ++ r)) : namesF ds = .no 2 := by
  rw [hl, namesF_at h]
  unfold nameF
  rw [if_neg hk]
  rfl
set_option maxRecDepth 100000 in
set_option maxHeartbeats 6400000 in
theorem namesOf_any (B f : Nat) (ds : List Dat) (a : Option Addr) (cap : Nat) (w : World) (hB : B ≤ w.heap.size) (hd : Dc (fun k => k < B) w f a ds) (hn : ds.length ≤ 100000) (hc : ds.length ≤ cap) (hs : ∀ d ∈ ds, d.kind = 3 → d.name.size ≤ 281474976710656) :
    Calls Tryz.prog 80 #[.slice a ds.length cap] w (ToldE (namesF ds) (fun l v w' => StrR w.heap.size l v w') w) := by
  have HD : Hid (∀ W j d, Below w.heap.size w W → ds[j]? = some d → ∃ b o a' cap', a = some ⟨b, o, none⟩ ∧ DAt (fun k => k < B) W b (o + j * 6) d a' cap') := fun W j d hb hj => by
    obtain ⟨g, b, o, a', cap', _, h1, h2, _⟩ := hd.at hj
    exact ⟨b, o, a', cap', h1, h2.below (hb.mono hB)⟩
  have HNM : Hid (∀ d ∈ ds, ∀ a' cap' w, Calls Tryz.prog 78 #[dv d a' cap'] w (ToldE (nameF d) (fun s v _ => v = .string s) w)) := fun d hdm a' cap' w => nameOf_any d a' cap' w (hs d hdm)
  have HL : Hid (∀ j, j < ds.length → ∃ d, ds[j]? = some d) := fun j hj => ⟨_, List.getElem?_eq_getElem hj⟩
  obtain ⟨i0, hinf, hz0, hz1, hz2⟩ := info_partsL infoStr
  obtain ⟨n, hn'⟩ : ∃ n, n = ds.length := ⟨_, rfl⟩
  have HN := hidd hn'
  rw [← hn'] at hn hc HL ⊢
  have H0 : Hid (namesF ds = (namesF (ds.drop 0)).bind fun r => .ok ([] ++ r)) := by
    show _ = _
    simp only [List.drop_zero, List.nil_append]
    cases namesF ds <;> rfl
  clear hd hs hn'
  go_enter Tryz.func80, Tryz.ntmps80
  go_wp2_with fail
  go_loopw [3, 5, 8] (fun v _ ix wr => ∃ (j : Nat) (l : List ByteArray), j ≤ n ∧ ix = .int .i64 j ∧ Hid (l.length = j) ∧ Hid (Below w.heap.size w wr ∧ StrR w.heap.size l v wr ∧ namesF ds = (namesF (ds.drop j)).bind fun r => .ok (l ++ r))) (fun _ _ ix _ => n - (intOf ix).toNat)
  case atStart => exact ⟨0, [], Nat.zero_le _, rfl, rfl, Below.refl _ _, World.ownsRow_nil _ _ _ _, H0.out⟩
  case round =>
    obtain ⟨j, l, hj, rfl, HJ, HR⟩ := hrel
    obtain ⟨va, vc, rfl, hvc⟩ := own_sliceL HR.out.2.1
    have hl : l.length ≤ 100000 := by have := HJ.out; omega
    by_cases hlt : j < n
    · obtain ⟨d, hdj⟩ := HL.out j hlt
      obtain ⟨b, o, a', cap', rfl, _, c0, c1, c2, c3, c4, c5, _, _⟩ := HD.out wr j d HR.out.1 hdj
      have i1 : (0 : Int) ≤ (j : Int) := by omega
      have i2 : (j : Int) < (n : Int) := by omega
      have HB1 : Hid (Below wr.heap.size wr (wr.alloc (.cells #[.int .i64 d.kind, .int .i64 d.n, .string d.name, .int .i64 d.stamp, .int .i64 d.lib, .slice a' d.kids.length cap'] 26))) := (Below.refl _ _).alloc (Nat.le_refl _) _
      have NM0 := HNM.out d (List.mem_of_getElem? hdj) a' cap'
      by_cases h3 : d.kind = 3
      · have NM : Hid (∀ w, Calls Tryz.prog 78 #[dv d a' cap'] w fun e w' => Below w.heap.size w w' ∧ e = .returned (.string d.name)) := fun w => (NM0 w).mono (by
          rintro e w' ⟨h1, h2⟩
          unfold nameF at h2
          rw [if_pos h3] at h2
          obtain ⟨v, rfl, rfl⟩ := h2
          exact ⟨h1, rfl⟩)
        have HST := hidd (namesF_step hdj h3 HR.out.2.2)
        clear NM0 h3 hdj
        unfold dv at NM
        generalize d.kids.length = kn at *
        go_wp2_with fail
        refine (NM.out _).mono ?_
        rintro e w2 ⟨hb2, rfl⟩
        have HB2 : Hid (Below wr.heap.size wr w2) := HB1.out.trans (hb2.mono HB1.out.size)
        have HO2 : Hid ((w2.alloc (.cells #[.string d.name] 9)).ownsRow w.heap.size 9 1 (.slice va l.length vc) l.length (l.map Value.string)) := (own_below HR.out.2.1 HB2.out).alloc _
        have hw2 : w.heap.size ≤ w2.heap.size := Nat.le_trans HR.out.1.size HB2.out.size
        clear hb2 NM
        go_wp2_with (at_builtin; refine wpList_append_lies _ rfl _ _ 23 rfl w.heap.size 9 i0 _ 1 16 Tryz.underlying23 hinf hz0 hz1 hz2 rfl (by decide) (.slice va l.length vc) l.length (l.map Value.string) rfl (by exact HO2.out) ⟨w2.heap.size, 0, none⟩ 1 1 [.string d.name] rfl rfl (by exact one_newsS w2 _ 9) (by intro u hu; simp at hu; subst hu; rfl) (by decide) (by unfold maxLen; omega) (by omega) (by simp; omega) (w2.heap.size + 1) (by simp) ?_; intro g cp w4 hown hgrow hat hlt4; have HX : Hid (Below w.heap.size w w4 ∧ StrR w.heap.size (l ++ [d.name]) (.slice (some ⟨g, 0, none⟩) (l.length + 1) cp) w4) := ⟨(HR.out.1.trans (HB2.out.mono HR.out.1.size)).trans (((Below.refl _ _).alloc hw2 _).trans (grown_below hgrow (by simp; omega) (fun q hq => (own_typeL HO2.out q hq).1))), by simpa [StrR] using hown⟩; clear hown hgrow hat hlt4)
        go_roundw
        case rel => exact ⟨j + 1, l ++ [d.name], hlt, by go_num, by show _ = _; have := HJ.out; simp; omega, HX.out.1, HX.out.2, HST.out⟩
        case measure => simp [intOf]; omega
      · have NM : Hid (∀ w, Calls Tryz.prog 78 #[dv d a' cap'] w fun e w' => Below w.heap.size w w' ∧ e = .panicked (thrownL 2)) := fun w => (NM0 w).mono (by
          rintro e w' ⟨h1, h2⟩
          unfold nameF at h2
          rw [if_neg h3] at h2
          exact ⟨h1, h2⟩)
        have HST := hidd (namesF_bad hdj h3 HR.out.2.2)
        clear NM0 h3 hdj
        unfold dv at NM
        generalize d.kids.length = kn at *
        go_wp2_with fail
        refine (NM.out _).mono ?_
        rintro e w2 ⟨hb2, rfl⟩
        have HB2 : Hid (Below w.heap.size w w2) := HR.out.1.trans ((HB1.out.trans (hb2.mono HB1.out.size)).mono HR.out.1.size)
        clear hb2 NM
        go_wp2_with fail
        refine ⟨rfl, HB2.out, ?_⟩
        rw [HST.out]
    · obtain rfl : j = n := by omega
      have HE : Hid (namesF ds = .ok l) := by
        show _ = _
        rw [HR.out.2.2, List.drop_eq_nil_of_le (by rw [← HN.out]; exact Nat.le_refl _), namesF]
        simp [Er.bind]
      go_wp2_with fail
      go_ret
      refine ⟨HR.out.1, ?_⟩
      rw [HE.out]
      exact ⟨_, rfl, HR.out.2.1⟩
end
end Go.Proofs.YtonafbennobgdaaGreatDoor
