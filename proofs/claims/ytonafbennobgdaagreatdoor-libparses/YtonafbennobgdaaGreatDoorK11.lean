/- Chapter 3: names of data. -/
import Derived.RegionDies
import Derived.Test.YtonafbennobgdaaGreatDoorK10
namespace Go.Proofs.YtonafbennobgdaaGreatDoor
set_option linter.unusedVariables false
set_option linter.unusedSimpArgs false
open Go.RowKit
set_option maxRecDepth 100000
set_option maxHeartbeats 3200000
theorem cloneT_any (s : ByteArray) (w : World) (hs : s.size ≤ 281474976710656) : Calls Tryz.prog 89 #[.string s] w fun e w' => e = .returned (.string s) ∧ Below w.heap.size w w' := by
 have HC := hidd (Tryz.stringslite_Clone s w hs)
 clear hs
 go_enter Tryz.func89, Tryz.ntmps89
 go_wp2_with fail
 refine HC.out.mono ?_
 rintro e w1 ⟨rfl, hb⟩
 have HB := hidd hb
 clear hb
 go_wp2_with fail
 go_ret
 exact ⟨rfl, HB.out⟩
def dcs (d : Dat) (a : Option Addr) (cap : Nat) : Array Value := #[.int .i64 d.kind, .int .i64 d.n, .string d.name, .int .i64 d.stamp, .int .i64 d.lib, .slice a d.kids.length cap]
theorem nameOf_any (d : Dat) (a : Option Addr) (cap : Nat) (w : World) (hs : d.kind = 3 → d.name.size ≤ 281474976710656) : Calls Tryz.prog 78 #[dv d a cap] w (ToldE (nameF d) (fun s v _ => v = .string s) w) := by
 have HB : Hid (Below w.heap.size w (w.alloc (.cells #[.int .i64 d.kind, .int .i64 d.n, .string d.name, .int .i64 d.stamp, .int .i64 d.lib, .slice a d.kids.length cap] 26))) := (Below.refl _ _).alloc (Nat.le_refl _) _
 have HY := hidd (must_yes 2)
 have HN := hidd (must_no 2)
 have HC : Hid (d.kind = 3 → ∀ w, Calls Tryz.prog 89 #[.string d.name] w fun e w' => e = .returned (.string d.name) ∧ Below w.heap.size w w') := fun h w => cloneT_any d.name w (hs h)
 clear hs
 unfold nameF dv
 generalize d.kids.length = n at *
 by_cases h1 : d.kind = 3
 ·have c1 : (d.kind == 3) = true := by simpa using h1
  rw [if_pos h1]
  have HC := hidd (HC.out h1)
  clear h1
  go_enter Tryz.func78, Tryz.ntmps78
  go_wp2_with fail
  refine (HY.out _).mono ?_
  rintro e w1 ⟨rfl, rfl⟩
  go_wp2_with fail
  refine (HC.out _).mono ?_
  rintro e w2 ⟨rfl, hb⟩
  have HB2 : Hid (Below w.heap.size w w2) := HB.out.trans (hb.mono HB.out.size)
  clear hb
  go_wp2_with fail
  go_ret
  exact ⟨HB2.out, _, rfl, rfl⟩
 rw [if_neg h1]
 have c1 : (d.kind == 3) = false := by simpa using h1
 clear h1
 go_enter Tryz.func78, Tryz.ntmps78
 go_wp2_with fail
 refine (HN.out _).mono ?_
 rintro e w1 ⟨rfl, rfl⟩
 go_wp2_with fail
 exact ⟨rfl, HB.out, rfl⟩
structure DAt (ok : Nat → Prop) (w : World) (b o : Nat) (d : Dat) (a : Option Addr) (cap : Nat) : Prop where
 hb : ok b
 c0 : w.cell? ⟨b, o, none⟩ = some (.int .i64 d.kind)
 c1 : w.cell? ⟨b, o + 1, none⟩ = some (.int .i64 d.n)
 c2 : w.cell? ⟨b, o + 2, none⟩ = some (.string d.name)
 c3 : w.cell? ⟨b, o + 3, none⟩ = some (.int .i64 d.stamp)
 c4 : w.cell? ⟨b, o + 4, none⟩ = some (.int .i64 d.lib)
 c5 : w.cell? ⟨b, o + 5, none⟩ = some (.slice a d.kids.length cap)
 ln : d.name.size ≤ maxLen
 lk : d.kids.length ≤ cap
theorem Dc.at {ok : Nat → Prop} {w : World} {f : Nat} {a : Option Addr} {ds : List Dat} (h : Dc ok w f a ds) {i : Nat} {d : Dat} (hi : ds[i]? = some d) : ∃ g b o a' cap, f = g + 1 ∧ a = some ⟨b, o, none⟩ ∧ DAt ok w b (o + i * 6) d a' cap ∧ Dc ok w g a' d.kids := by
 cases f with
 | zero => rw [show ds = [] from h] at hi; simp at hi
 | succ g =>
  obtain ⟨hl, h⟩ := h
  rcases h with h | ⟨b, o, ha, hb, h⟩
  ·rw [h] at hi; simp at hi
  obtain ⟨a', cap, h0, h1, h2, h3, h4, h5, h6, h7, h8⟩ := h i d hi
  exact ⟨g, b, o, a', cap, rfl, ha, ⟨hb, h0, h1, h2, h3, h4, h5, h6, h7⟩, h8⟩
theorem Dc.below {B : Nat} {w w' : World} {f : Nat} {a : Option Addr} {ds : List Dat} (h : Dc (fun k => k < B) w f a ds) (hb : Below B w w') : Dc (fun k => k < B) w' f a ds := Dc.stay (fun k hk => hb.block k hk) (fun _ h => h) f a ds h
theorem DAt.below {B : Nat} {w w' : World} {b o : Nat} {d : Dat} {a : Option Addr} {cap : Nat} (h : DAt (fun k => k < B) w b o d a cap) (hb : Below B w w') : DAt (fun k => k < B) w' b o d a cap := by
 have e : ∀ q, w'.cell? ⟨b, q, none⟩ = w.cell? ⟨b, q, none⟩ := fun q => hb.cell (p := ⟨b, q, none⟩) h.hb
 exact ⟨h.hb, (e _).trans h.c0, (e _).trans h.c1, (e _).trans h.c2, (e _).trans h.c3, (e _).trans h.c4, (e _).trans h.c5, h.ln, h.lk⟩
theorem Dc.tail {ok : Nat → Prop} {w : World} {f : Nat} {b o : Nat} {x : Dat} {r : List Dat} (h : Dc ok w f (some ⟨b, o, none⟩) (x :: r)) : Dc ok w f (some ⟨b, o + 6, none⟩) r := by
 cases f with
 | zero => cases (show x :: r = [] from h)
 | succ g =>
  obtain ⟨hl, h⟩ := h
  refine ⟨by simp at hl; omega, ?_⟩
  rcases h with h | ⟨b', o', ha, hb, h⟩
  ·cases h
  cases ha
  refine Or.inr ⟨b, o + 6, rfl, hb, fun i d hi => ?_⟩
  have := h (i + 1) d (by simpa using hi)
  rw [show o + (i + 1) * 6 = o + 6 + i * 6 by omega] at this
  exact this
theorem form_none (d : Dat) (a : Option Addr) (cap : Nat) (w : World) (h : thingsF d = .no 2) : Calls Tryz.prog 53 #[dv d a cap] w fun e w' => Below w.heap.size w w' ∧ e = .panicked (thrownL 2) := by
 have HT := hidd (fun w => things_any d a cap w)
 rw [h] at HT
 unfold ToldE at HT
 simp only at HT
 have HB : Hid (Below w.heap.size w (w.alloc (.cells #[.int .i64 d.kind, .int .i64 d.n, .string d.name, .int .i64 d.stamp, .int .i64 d.lib, .slice a d.kids.length cap] 26))) := (Below.refl _ _).alloc (Nat.le_refl _) _
 clear h
 unfold dv at *
 generalize d.kids.length = n at *
 go_enter Tryz.func53, Tryz.ntmps53
 go_wp2_with fail
 refine (HT.out _).mono ?_
 rintro e w1 ⟨hb, rfl⟩
 have HB1 : Hid (Below w.heap.size w w1) := HB.out.trans (hb.mono HB.out.size)
 clear hb
 go_wp2_with fail
 exact ⟨rfl, HB1.out, rfl⟩
theorem form_some (B : Nat) (d x : Dat) (r : List Dat) (b o cap xc : Nat) (xa : Option Addr) (w : World) (hB : B ≤ w.heap.size) (hk : d.kind = 4) (hd : d.kids = x :: r) (hx : DAt (fun k => k < B) w b o x xa xc) (hc : d.kids.length ≤ cap) (hs : x.kind = 3 → x.name.size ≤ 281474976710656) :
 Calls Tryz.prog 53 #[dv d (some ⟨b, o, none⟩) cap] w (ToldE (nameF x) (fun s v _ => v = .tuple #[.string s, .slice (some ⟨b, if cap = 1 then o else o + 6, none⟩) r.length (cap - 1)]) w) := by
 have HT : Hid (∀ w, Calls Tryz.prog 77 #[dv d (some ⟨b, o, none⟩) cap] w fun e w' => Below w.heap.size w w' ∧ e = .returned (.slice (some ⟨b, o, none⟩) d.kids.length cap)) := fun w => (things_any d (some ⟨b, o, none⟩) cap w).mono (by
  rintro e w' ⟨h1, h2⟩
  unfold thingsF at h2
  rw [if_pos ⟨hk, by rw [hd]; simp⟩] at h2
  obtain ⟨v, rfl, rfl, _⟩ := h2
  exact ⟨h1, rfl⟩)
 by_cases h3 : x.kind = 3
 case pos =>
  have HNM : Hid (∀ w, Calls Tryz.prog 78 #[dv x xa xc] w fun e w' => Below w.heap.size w w' ∧ e = .returned (.string x.name)) := fun w => (nameOf_any x xa xc w hs).mono (by
   rintro e w' ⟨h1, h2⟩
   unfold nameF at h2
   rw [if_pos h3] at h2
   obtain ⟨v, rfl, rfl⟩ := h2
   exact ⟨h1, rfl⟩)
  unfold nameF
  rw [if_pos h3]
  have HB : Hid (Below w.heap.size w (w.alloc (.cells #[.int .i64 d.kind, .int .i64 d.n, .string d.name, .int .i64 d.stamp, .int .i64 d.lib, .slice (some ⟨b, o, none⟩) d.kids.length cap] 26))) := (Below.refl _ _).alloc (Nat.le_refl _) _
  have HX : Hid (∀ W, Below w.heap.size w W → DAt (fun k => k < B) W b o x xa xc) := fun W hb => hx.below (hb.mono hB)
  have HL : Hid (d.kids.length = r.length + 1) := by show _ = _; rw [hd]; rfl
  have hl1 : 1 ≤ d.kids.length := by rw [hd]; simp
  clear hk hd hx hs hB h3
  unfold dv at *
  generalize d.kids.length = n at *
  have hl2 : 0 < n := hl1
  have q1 : (1 : Int) ≤ (n : Int) := by omega
  have q2 : (n : Int) ≤ (cap : Int) := by omega
  have q3 : (0 : Int) < (n : Int) := by omega
  go_enter Tryz.func53, Tryz.ntmps53
  go_wp2_with fail
  refine (HT.out _).mono ?_
  rintro e w1 ⟨hb, rfl⟩
  have HB1 : Hid (Below w.heap.size w w1) := HB.out.trans (hb.mono HB.out.size)
  clear hb
  obtain ⟨_, c0, c1, c2, c3, c4, c5, _, _⟩ := HX.out w1 HB1.out
  generalize x.kids.length = xn at *
  go_wp2_with fail
  by_cases hcap : cap = 1
  ·subst hcap
   obtain rfl : n = 1 := by omega
   go_region_with (go_at_call 78; refine (HNM.out _).mono ?_; rintro e w2 ⟨hb2, rfl⟩)
   all_goals
    have HB2 : Hid (Below w.heap.size w w2) := HB1.out.trans ((Below.drew (Below.refl _ _)).trans (hb2.mono (Nat.le_refl _)) |>.mono HB1.out.size)
    clear hb2
    go_wp2_with fail
    refine bodyPost_ret (v := .tuple #[.string x.name, .slice (some ⟨b, o, none⟩) 0 0]) (by simp [results, Tryz.results53]) rfl ⟨HB2.out, _, rfl, ?_⟩
    rw [show r.length = 0 from by have := HL.out; omega]
  go_region_with (go_at_call 78; refine (HNM.out _).mono ?_; rintro e w2 ⟨hb2, rfl⟩)
  all_goals
   have HB2 : Hid (Below w.heap.size w w2) := HB1.out.trans ((Below.drew (Below.refl _ _)).trans (hb2.mono (Nat.le_refl _)) |>.mono HB1.out.size)
   clear hb2
   go_wp2_with fail
   refine bodyPost_ret (v := .tuple #[.string x.name, .slice (some ⟨b, o + 6, none⟩) (n - 1) (cap - 1)]) (by simp [results, Tryz.results53]) rfl ⟨HB2.out, _, rfl, ?_⟩
   rw [show r.length = n - 1 from by have := HL.out; omega]
 case neg =>
  have HNM : Hid (∀ w, Calls Tryz.prog 78 #[dv x xa xc] w fun e w' => Below w.heap.size w w' ∧ e = .panicked (thrownL 2)) := fun w => (nameOf_any x xa xc w hs).mono (by
   rintro e w' ⟨h1, h2⟩
   unfold nameF at h2
   rw [if_neg h3] at h2
   exact ⟨h1, h2⟩)
  unfold nameF
  rw [if_neg h3]
  have HB : Hid (Below w.heap.size w (w.alloc (.cells #[.int .i64 d.kind, .int .i64 d.n, .string d.name, .int .i64 d.stamp, .int .i64 d.lib, .slice (some ⟨b, o, none⟩) d.kids.length cap] 26))) := (Below.refl _ _).alloc (Nat.le_refl _) _
  have HX : Hid (∀ W, Below w.heap.size w W → DAt (fun k => k < B) W b o x xa xc) := fun W hb => hx.below (hb.mono hB)
  have HL : Hid (d.kids.length = r.length + 1) := by show _ = _; rw [hd]; rfl
  have hl1 : 1 ≤ d.kids.length := by rw [hd]; simp
  clear hk hd hx hs hB h3
  unfold dv at *
  generalize d.kids.length = n at *
  have hl2 : 0 < n := hl1
  have q1 : (1 : Int) ≤ (n : Int) := by omega
  have q2 : (n : Int) ≤ (cap : Int) := by omega
  have q3 : (0 : Int) < (n : Int) := by omega
  go_enter Tryz.func53, Tryz.ntmps53
  go_wp2_with fail
  refine (HT.out _).mono ?_
  rintro e w1 ⟨hb, rfl⟩
  have HB1 : Hid (Below w.heap.size w w1) := HB.out.trans (hb.mono HB.out.size)
  clear hb
  obtain ⟨_, c0, c1, c2, c3, c4, c5, _, _⟩ := HX.out w1 HB1.out
  generalize x.kids.length = xn at *
  go_wp2_with fail
  by_cases hcap : cap = 1
  ·subst hcap
   go_region_dies
   all_goals
    refine (HNM.out _).mono ?_
    rintro e w2 ⟨hb2, rfl⟩
    have HB2 : Hid (Below w.heap.size w w2) := HB1.out.trans ((Below.drew (Below.refl _ _)).trans (hb2.mono (Nat.le_refl _)) |>.mono HB1.out.size)
    clear hb2
    go_wp2_with fail
    exact ⟨rfl, HB2.out, rfl⟩
  go_region_dies
  all_goals
   refine (HNM.out _).mono ?_
   rintro e w2 ⟨hb2, rfl⟩
   have HB2 : Hid (Below w.heap.size w w2) := HB1.out.trans ((Below.drew (Below.refl _ _)).trans (hb2.mono (Nat.le_refl _)) |>.mono HB1.out.size)
   clear hb2
   go_wp2_with fail
   exact ⟨rfl, HB2.out, rfl⟩
theorem infoStr : (Tryz.prog.info? 9).map (fun i => (i.zero, i.size, i.bytes)) = some (some (.string ⟨#[]⟩), 1, 16) := by kernel_rfl
theorem info_partsL {t : TypeId} {z : Value} {s b : Nat} (h : (Tryz.prog.info? t).map (fun i => (i.zero, i.size, i.bytes)) = some (some z, s, b)) : ∃ i, Tryz.prog.info? t = some i ∧ i.zero = some z ∧ i.size = s ∧ i.bytes = b := by
 cases hi : Tryz.prog.info? t with
 | none => rw [hi] at h; cases h
 | some i =>
  rw [hi] at h
  simp at h
  exact ⟨i, rfl, h.1, h.2.1, h.2.2⟩
theorem cellO {w : World} {N q : Nat} {cs : Array Value} {t : TypeId} (h : w.heap[N]? = some (.cells cs t (0, 0))) : w.cell? ⟨N, q, none⟩ = cs[q]? := by simp [World.cell?, h]
theorem looseO {w : World} {N q : Nat} {cs : Array Value} {t : TypeId} (h : w.heap[N]? = some (.cells cs t (0, 0))) : w.frozen? ⟨N, q, none⟩ = false := by simp [World.frozen?, h]
theorem one_newsS (w : World) (v : Value) (t : TypeId) : ∀ j u, [v][j]? = some u → (w.alloc (.cells #[v] t)).cell? ((⟨w.heap.size, 0, none⟩ : Addr).add j) = some u := by
 intro j u hj
 rw [addr_add]
 match j, hj with
 | 0, hj =>
  simp at hj
  subst hj
  exact (cellO (World.alloc_heap_new w _)).trans rfl
 | n + 1, hj => simp at hj
theorem own_sliceL {w : World} {base size n : Nat} {e : TypeId} {v : Value} {xs : List Value} (h : w.ownsRow base e size v n xs) : ∃ va vc, v = .slice va n vc ∧ n ≤ vc := by
 rcases h.2 with ⟨rfl, rfl⟩ | ⟨g, cap, cur, rfl, hbg, hg, hnc, hcm, hcs, htake⟩
 ·exact ⟨none, 0, rfl, Nat.le_refl _⟩
 exact ⟨_, cap, rfl, hnc⟩
theorem own_typeL {w : World} {base size n : Nat} {e : TypeId} {v : Value} {xs : List Value} (h : w.ownsRow base e size v n xs) : ∀ g, v.ownBlock = some g → base ≤ g ∧ g < w.heap.size ∧ ∃ cs, w.heap[g]? = some (.cells cs e (0, 0)) := by
 intro g hg
 rcases h.2 with ⟨rfl, rfl⟩ | ⟨g', cap, cur, rfl, hbg, hgg, _⟩
 ·cases hg
 cases hg
 exact ⟨hbg, (Array.getElem?_eq_some_iff.1 hgg).1, _, hgg⟩
theorem own_keepL {w w' : World} {B size n : Nat} {t : TypeId} {v : Value} {xs : List Value} (h : w.ownsRow B t size v n xs) (hk : ∀ g, v.ownBlock = some g → w'.heap[g]? = w.heap[g]?) : w'.ownsRow B t size v n xs := by
 refine ⟨h.1, ?_⟩
 rcases h.2 with hn | ⟨g, cap, cur, rfl, hb, hgg, rest⟩
 ·exact .inl hn
 exact .inr ⟨g, cap, cur, rfl, hb, (hk g rfl).trans hgg, rest⟩
theorem own_below {w w' : World} {B size n : Nat} {t : TypeId} {v : Value} {xs : List Value} (h : w.ownsRow B t size v n xs) (hb : Below w.heap.size w w') : w'.ownsRow B t size v n xs := own_keepL h fun g hg => hb.block g (own_typeL h g hg).2.1
theorem grown_below {B : Nat} {w w' : World} {r : Option Nat} (hg : w.grownBy w' r) (hB : B ≤ w.heap.size) (hr : ∀ g, r = some g → B ≤ g) : Below B w w' :=
 ⟨hg.os, hg.tape, hg.output, hg.size, fun k hk => hg.block k (by omega) (fun e => by have := hr k e.symm; omega)⟩
def StrR (B : Nat) (l : List ByteArray) (v : Value) (w : World) : Prop := w.ownsRow B 9 1 v l.length (l.map Value.string)
theorem namesF_at {ds : List Dat} {j : Nat} {d : Dat} (h : ds[j]? = some d) : namesF (ds.drop j) = (nameF d).bind fun n => (namesF (ds.drop (j + 1))).bind fun l => .ok (n :: l) := by
 obtain ⟨hi, e⟩ := List.getElem?_eq_some_iff.1 h
 rw [List.drop_eq_getElem_cons hi, e, namesF]
theorem namesF_step {ds : List Dat} {j : Nat} {d : Dat} {l : List ByteArray} (h : ds[j]? = some d) (hk : d.kind = 3) (hl : namesF ds = (namesF (ds.drop j)).bind fun r => .ok (l ++ r)) : namesF ds = (namesF (ds.drop (j + 1))).bind fun r => .ok (l ++ [d.name] ++ r) := by
 rw [hl, namesF_at h]
 unfold nameF
 rw [if_pos hk]
 simp only [Er.bind]
 cases namesF (ds.drop (j + 1)) with
 | no e => rfl
 | ok r => simp
theorem namesF_bad {ds : List Dat} {j : Nat} {d : Dat} {l : List ByteArray} (h : ds[j]? = some d) (hk : ¬ d.kind = 3) (hl : namesF ds = (namesF (ds.drop j)).bind fun r => .ok (l ++ r)) : namesF ds = .no 2 := by
 rw [hl, namesF_at h]
 unfold nameF
 rw [if_neg hk]
 rfl
set_option maxRecDepth 100000 in
set_option maxHeartbeats 6400000 in
theorem namesOf_any (B f : Nat) (ds : List Dat) (a : Option Addr) (cap : Nat) (w : World) (hB : B ≤ w.heap.size) (hd : Dc (fun k => k < B) w f a ds) (hn : ds.length ≤ 100000) (hc : ds.length ≤ cap) (hs : ∀ d ∈ ds, d.kind = 3 → d.name.size ≤ 281474976710656) :
 Calls Tryz.prog 80 #[.slice a ds.length cap] w (ToldE (namesF ds) (fun l v w' => StrR w.heap.size l v w') w) := by
 have HD : Hid (∀ W j d, Below w.heap.size w W → ds[j]? = some d → ∃ b o a' cap', a = some ⟨b, o, none⟩ ∧ DAt (fun k => k < B) W b (o + j * 6) d a' cap') := fun W j d hb hj => by
  obtain ⟨g, b, o, a', cap', _, h1, h2, _⟩ := hd.at hj
  exact ⟨b, o, a', cap', h1, h2.below (hb.mono hB)⟩
 have HNM : Hid (∀ d ∈ ds, ∀ a' cap' w, Calls Tryz.prog 78 #[dv d a' cap'] w (ToldE (nameF d) (fun s v _ => v = .string s) w)) := fun d hdm a' cap' w => nameOf_any d a' cap' w (hs d hdm)
 have HL : Hid (∀ j, j < ds.length → ∃ d, ds[j]? = some d) := fun j hj => ⟨_, List.getElem?_eq_getElem hj⟩
 obtain ⟨i0, hinf, hz0, hz1, hz2⟩ := info_partsL infoStr
 obtain ⟨n, hn'⟩ : ∃ n, n = ds.length := ⟨_, rfl⟩
 have HN := hidd hn'
 rw [← hn'] at hn hc HL ⊢
 have H0 : Hid (namesF ds = (namesF (ds.drop 0)).bind fun r => .ok ([] ++ r)) := by
  show _ = _
  simp only [List.drop_zero, List.nil_append]
  cases namesF ds <;> rfl
 clear hd hs hn'
 go_enter Tryz.func80, Tryz.ntmps80
 go_wp2_with fail
 go_loopw [3, 5, 8] (fun v _ ix wr => ∃ (j : Nat) (l : List ByteArray), j ≤ n ∧ ix = .int .i64 j ∧ Hid (l.length = j) ∧ Hid (Below w.heap.size w wr ∧ StrR w.heap.size l v wr ∧ namesF ds = (namesF (ds.drop j)).bind fun r => .ok (l ++ r))) (fun _ _ ix _ => n - (intOf ix).toNat)
 case atStart => exact ⟨0, [], Nat.zero_le _, rfl, rfl, Below.refl _ _, World.ownsRow_nil _ _ _ _, H0.out⟩
 obtain ⟨j, l, hj, rfl, HJ, HR⟩ := hrel
 obtain ⟨va, vc, rfl, hvc⟩ := own_sliceL HR.out.2.1
 have hl : l.length ≤ 100000 := by have := HJ.out; omega
 by_cases hlt : j < n
 rotate_left
 ·obtain rfl : j = n := by omega
  have HE : Hid (namesF ds = .ok l) := by
   show _ = _
   rw [HR.out.2.2, List.drop_eq_nil_of_le (by rw [← HN.out]; exact Nat.le_refl _), namesF]
   simp [Er.bind]
  go_wp2_with fail
  go_ret
  refine ⟨HR.out.1, ?_⟩
  rw [HE.out]
  exact ⟨_, rfl, HR.out.2.1⟩
 obtain ⟨d, hdj⟩ := HL.out j hlt
 obtain ⟨b, o, a', cap', rfl, _, c0, c1, c2, c3, c4, c5, _, _⟩ := HD.out wr j d HR.out.1 hdj
 have i1 : (0 : Int) ≤ (j : Int) := by omega
 have i2 : (j : Int) < (n : Int) := by omega
 have HB1 : Hid (Below wr.heap.size wr (wr.alloc (.cells #[.int .i64 d.kind, .int .i64 d.n, .string d.name, .int .i64 d.stamp, .int .i64 d.lib, .slice a' d.kids.length cap'] 26))) := (Below.refl _ _).alloc (Nat.le_refl _) _
 have NM0 := HNM.out d (List.mem_of_getElem? hdj) a' cap'
 by_cases h3 : d.kind = 3
 ·have NM : Hid (∀ w, Calls Tryz.prog 78 #[dv d a' cap'] w fun e w' => Below w.heap.size w w' ∧ e = .returned (.string d.name)) := fun w => (NM0 w).mono (by
   rintro e w' ⟨h1, h2⟩
   unfold nameF at h2
   rw [if_pos h3] at h2
   obtain ⟨v, rfl, rfl⟩ := h2
   exact ⟨h1, rfl⟩)
  have HST := hidd (namesF_step hdj h3 HR.out.2.2)
  clear NM0 h3 hdj
  unfold dv at NM
  generalize d.kids.length = kn at *
  go_wp2_with fail
  refine (NM.out _).mono ?_
  rintro e w2 ⟨hb2, rfl⟩
  have HB2 : Hid (Below wr.heap.size wr w2) := HB1.out.trans (hb2.mono HB1.out.size)
  have HO2 : Hid ((w2.alloc (.cells #[.string d.name] 9)).ownsRow w.heap.size 9 1 (.slice va l.length vc) l.length (l.map Value.string)) := (own_below HR.out.2.1 HB2.out).alloc _
  have hw2 : w.heap.size ≤ w2.heap.size := Nat.le_trans HR.out.1.size HB2.out.size
  clear hb2 NM
  go_wp2_with (at_builtin; refine wpList_append_lies _ rfl _ _ 23 rfl w.heap.size 9 i0 _ 1 16 Tryz.underlying23 hinf hz0 hz1 hz2 rfl (by decide) (.slice va l.length vc) l.length (l.map Value.string) rfl (by exact HO2.out) ⟨w2.heap.size, 0, none⟩ 1 1 [.string d.name] rfl rfl (by exact one_newsS w2 _ 9) (by intro u hu; simp at hu; subst hu; rfl) (by decide) (by unfold maxLen; omega) (by omega) (by simp; omega) (w2.heap.size + 1) (by simp) ?_; intro g cp w4 hown hgrow hat hlt4; have HX : Hid (Below w.heap.size w w4 ∧ StrR w.heap.size (l ++ [d.name]) (.slice (some ⟨g, 0, none⟩) (l.length + 1) cp) w4) := ⟨(HR.out.1.trans (HB2.out.mono HR.out.1.size)).trans (((Below.refl _ _).alloc hw2 _).trans (grown_below hgrow (by simp; omega) (fun q hq => (own_typeL HO2.out q hq).1))), by simpa [StrR] using hown⟩; clear hown hgrow hat hlt4)
  go_roundw
  case rel => exact ⟨j + 1, l ++ [d.name], hlt, by go_num, by show _ = _; have := HJ.out; simp; omega, HX.out.1, HX.out.2, HST.out⟩
  case measure => simp [intOf]; omega
 have NM : Hid (∀ w, Calls Tryz.prog 78 #[dv d a' cap'] w fun e w' => Below w.heap.size w w' ∧ e = .panicked (thrownL 2)) := fun w => (NM0 w).mono (by
  rintro e w' ⟨h1, h2⟩
  unfold nameF at h2
  rw [if_neg h3] at h2
  exact ⟨h1, h2⟩)
 have HST := hidd (namesF_bad hdj h3 HR.out.2.2)
 clear NM0 h3 hdj
 unfold dv at NM
 generalize d.kids.length = kn at *
 go_wp2_with fail
 refine (NM.out _).mono ?_
 rintro e w2 ⟨hb2, rfl⟩
 have HB2 : Hid (Below w.heap.size w w2) := HR.out.1.trans ((HB1.out.trans (hb2.mono HB1.out.size)).mono HR.out.1.size)
 clear hb2 NM
 go_wp2_with fail
 refine ⟨rfl, HB2.out, ?_⟩
 rw [HST.out]
def JoinOk : Prop := ∀ (B : Nat) (l : List ByteArray) (v : Value) (w : World), StrR B l v w → B ≤ w.heap.size → l.length ≤ 2000 → (∀ x ∈ l, x.size ≤ 20) → Calls Tryz.prog 79 #[v, .string ⟨#[32]⟩] w fun e w' => e = .returned (.string (joinB l)) ∧ Below w.heap.size w w'
mutual
def okD : Dat → Prop
 | ⟨k, _, nm, _, _, ks⟩ => (k = 3 → nm.size ≤ 20 ∧ nm ≠ ⟨#[]⟩) ∧ (k = 4 → ks.length ≤ 2000 ∧ okL ks)
def okL : List Dat → Prop
 | [] => True
 | d :: r => okD d ∧ okL r
end
theorem okD_sym {d : Dat} (h : okD d) (hk : d.kind = 3) : d.name.size ≤ 20 ∧ d.name ≠ ⟨#[]⟩ := by
 cases d
 rw [okD] at h
 exact h.1 hk
theorem okD_list {d : Dat} (h : okD d) (hk : d.kind = 4) : d.kids.length ≤ 2000 ∧ okL d.kids := by
 cases d
 rw [okD] at h
 exact h.2 hk
theorem okL_mem : ∀ {l : List Dat}, okL l → ∀ d ∈ l, okD d
 | [], _, d, hd => by simp at hd
 | x :: r, h, d, hd => by
  rw [okL] at h
  rcases List.mem_cons.1 hd with rfl | hd
  ·exact h.1
  exact okL_mem h.2 d hd
theorem okD_big {d : Dat} (h : okD d) : d.kind = 3 → d.name.size ≤ 281474976710656 := fun hk => Nat.le_trans (okD_sym h hk).1 (by decide)
theorem namesF_ok : ∀ {ds : List Dat} {l : List ByteArray}, okL ds → namesF ds = .ok l → l.length = ds.length ∧ ∀ x ∈ l, x.size ≤ 20
 | [], l, _, h => by rw [namesF] at h; cases h; exact ⟨rfl, by simp⟩
 | d :: r, l, ho, h => by
  rw [namesF] at h
  rw [okL] at ho
  unfold nameF at h
  by_cases hk : d.kind = 3
  ·rw [if_pos hk] at h
   simp only [Er.bind] at h
   cases hr : namesF r with
   | no e => rw [hr] at h; cases h
   | ok q =>
    rw [hr] at h
    cases h
    obtain ⟨h1, h2⟩ := namesF_ok ho.2 hr
    exact ⟨by simp [h1], fun x hx => by rcases List.mem_cons.1 hx with rfl | hx; exact (okD_sym ho.1 hk).1; exact h2 x hx⟩
  rw [if_neg hk] at h
  cases h
set_option maxRecDepth 100000 in
set_option maxHeartbeats 3200000 in
theorem called_any (J : JoinOk) (B f : Nat) (d : Dat) (a : Option Addr) (cap : Nat) (w : World) (hB : B ≤ w.heap.size) (hd : Dc (fun k => k < B) w f a d.kids) (hc : d.kids.length ≤ cap) (ho : okD d) :
 Calls Tryz.prog 55 #[dv d a cap] w (ToldE (calledF d) (fun s v _ => v = .string s) w) := by
 have HB : Hid (Below w.heap.size w (w.alloc (.cells #[.int .i64 d.kind, .int .i64 d.n, .string d.name, .int .i64 d.stamp, .int .i64 d.lib, .slice a d.kids.length cap] 26))) := (Below.refl _ _).alloc (Nat.le_refl _) _
 have HT := hidd (fun w => things_any d a cap w)
 unfold calledF
 by_cases hk : d.kind = 4 ∧ d.kids ≠ []
 rotate_left
 ·have et : thingsF d = .no 2 := by unfold thingsF; rw [if_neg hk]
  rw [et] at HT ⊢
  unfold ToldE at HT
  simp only at HT
  clear J et hk hd hc ho hB
  unfold dv at *
  generalize d.kids.length = n at *
  go_enter Tryz.func55, Tryz.ntmps55
  go_wp2_with fail
  refine (HT.out _).mono ?_
  rintro e w1 ⟨hb1, rfl⟩
  have HB1 : Hid (Below w.heap.size w w1) := HB.out.trans (hb1.mono HB.out.size)
  clear hb1
  go_wp2_with fail
  exact ⟨rfl, HB1.out, rfl⟩
 have et : thingsF d = .ok d.kids := by unfold thingsF; rw [if_pos hk]
 rw [et] at HT ⊢
 unfold ToldE at HT
 simp only at HT
 obtain ⟨o1, o2⟩ := okD_list ho hk.1
 have HNM : Hid (∀ W, Below w.heap.size w W → Calls Tryz.prog 80 #[.slice a d.kids.length cap] W (ToldE (namesF d.kids) (fun l v w' => StrR W.heap.size l v w') W)) := fun W hb => namesOf_any B f d.kids a cap W (Nat.le_trans hB hb.size) (hd.below (hb.mono hB)) (by omega) hc (fun x hx => okD_big (okL_mem o2 x hx))
 have HO : Hid (∀ l, namesF d.kids = .ok l → l.length ≤ 2000 ∧ ∀ x ∈ l, x.size ≤ 20) := fun l hl => by
  obtain ⟨h1, h2⟩ := namesF_ok o2 hl
  exact ⟨by omega, h2⟩
 have HJ := hidd J
 clear J et hk o1 o2 hd hc ho hB
 show Calls _ _ _ _ (ToldE ((namesF d.kids).bind fun ns => if (joinB ns).size ≤ 60 then .ok (joinB ns) else .no 4) _ w)
 cases hN : namesF d.kids with
 | no x =>
  rw [hN] at HNM
  unfold ToldE at HNM
  simp only at HNM
  clear hN HO
  unfold dv at *
  generalize d.kids.length = n at *
  go_enter Tryz.func55, Tryz.ntmps55
  go_wp2_with fail
  refine (HT.out _).mono ?_
  rintro e w1 ⟨hb1, v, rfl, rfl, _⟩
  have HB1 : Hid (Below w.heap.size w w1) := HB.out.trans (hb1.mono HB.out.size)
  clear hb1
  go_wp2_with fail
  refine (HNM.out _ HB1.out).mono ?_
  rintro e w2 ⟨hb2, rfl⟩
  have HB2 : Hid (Below w.heap.size w w2) := HB1.out.trans (hb2.mono HB1.out.size)
  clear hb2
  go_wp2_with fail
  exact ⟨rfl, HB2.out, rfl⟩
 | ok l =>
  obtain ⟨ho1, ho2⟩ := HO.out l hN
  rw [hN] at HNM
  unfold ToldE at HNM
  simp only at HNM
  have HY := hidd (must_yes 4)
  have HX := hidd (must_no 4)
  have HO2 : Hid (l.length ≤ 2000 ∧ ∀ x ∈ l, x.size ≤ 20) := ⟨ho1, ho2⟩
  clear hN HO ho1 ho2
  unfold dv at *
  generalize d.kids.length = n at *
  show Calls _ _ _ _ (ToldE (if (joinB l).size ≤ 60 then .ok (joinB l) else .no 4) _ w)
  obtain ⟨jb, hjb⟩ : ∃ jb, jb = joinB l := ⟨_, rfl⟩
  rw [← hjb]
  have HJB := hidd hjb
  clear hjb
  by_cases hsz : jb.size ≤ 60
  ·rw [if_pos hsz]
   have c1 : decide ((jb.size : Int) ≤ 60) = true := by simp; omega
   go_enter Tryz.func55, Tryz.ntmps55
   go_wp2_with fail
   refine (HT.out _).mono ?_
   rintro e w1 ⟨hb1, v, rfl, rfl, _⟩
   have HB1 : Hid (Below w.heap.size w w1) := HB.out.trans (hb1.mono HB.out.size)
   clear hb1
   go_wp2_with fail
   refine (HNM.out _ HB1.out).mono ?_
   rintro e w2 ⟨hb2, v, rfl, hv⟩
   have HB2 : Hid (Below w.heap.size w w2) := HB1.out.trans (hb2.mono HB1.out.size)
   have JJ := HJ.out _ l v w2 hv hb2.size HO2.out.1 HO2.out.2
   rw [← HJB.out] at JJ
   have HJJ := hidd JJ
   clear hb2 hv JJ
   go_wp2_with fail
   refine HJJ.out.mono ?_
   rintro e w3 ⟨rfl, hb3⟩
   have HB3 : Hid (Below w.heap.size w w3) := HB2.out.trans (hb3.mono HB2.out.size)
   clear hb3 HJJ
   go_wp2_with fail
   refine (HY.out _).mono ?_
   rintro e w4 ⟨rfl, rfl⟩
   go_wp2_with fail
   go_ret
   exact ⟨HB3.out, _, rfl, rfl⟩
  rw [if_neg hsz]
  have c1 : decide ((jb.size : Int) ≤ 60) = false := by simp; omega
  have c2 : ¬ ((jb.size : Int) ≤ 60) := by omega
  go_enter Tryz.func55, Tryz.ntmps55
  go_wp2_with fail
  refine (HT.out _).mono ?_
  rintro e w1 ⟨hb1, v, rfl, rfl, _⟩
  have HB1 : Hid (Below w.heap.size w w1) := HB.out.trans (hb1.mono HB.out.size)
  clear hb1
  go_wp2_with fail
  refine (HNM.out _ HB1.out).mono ?_
  rintro e w2 ⟨hb2, v, rfl, hv⟩
  have HB2 : Hid (Below w.heap.size w w2) := HB1.out.trans (hb2.mono HB1.out.size)
  have JJ := HJ.out _ l v w2 hv hb2.size HO2.out.1 HO2.out.2
  rw [← HJB.out] at JJ
  have HJJ := hidd JJ
  clear hb2 hv JJ
  go_wp2_with fail
  refine HJJ.out.mono ?_
  rintro e w3 ⟨rfl, hb3⟩
  have HB3 : Hid (Below w.heap.size w w3) := HB2.out.trans (hb3.mono HB2.out.size)
  clear hb3 HJJ
  go_wp2_with fail
  refine (HX.out _).mono ?_
  rintro e w4 ⟨rfl, rfl⟩
  go_wp2_with fail
  exact ⟨rfl, HB3.out, rfl⟩
theorem isWord_any (d : Dat) (a : Option Addr) (cap : Nat) (s : ByteArray) (w : World) : Calls Tryz.prog 132 #[dv d a cap, .string s] w fun e w' => e = .returned (.bool (decide (d.kind = 3 ∧ d.name = s))) ∧ Below w.heap.size w w' := by
 have HB : Hid (Below w.heap.size w (w.alloc (.cells #[.int .i64 d.kind, .int .i64 d.n, .string d.name, .int .i64 d.stamp, .int .i64 d.lib, .slice a d.kids.length cap] 26))) := (Below.refl _ _).alloc (Nat.le_refl _) _
 unfold dv
 generalize d.kids.length = n at *
 by_cases h1 : d.kind = 3
 ·have c1 : (d.kind == 3) = true := by simpa using h1
  by_cases h2 : d.name = s
  ·have c2 : (d.name.toList == s.toList) = true := by rw [h2]; simp
   rw [decide_eq_true ⟨h1, h2⟩]
   clear h1 h2
   go_enter Tryz.func132, Tryz.ntmps132
   go_wp2_with fail
   go_ret
   exact ⟨rfl, HB.out⟩
  have c2 := beqS_ne h2
  rw [decide_eq_false (fun h => h2 h.2)]
  clear h1 h2
  go_enter Tryz.func132, Tryz.ntmps132
  go_wp2_with fail
  go_ret
  exact ⟨rfl, HB.out⟩
 have c1 : (d.kind == 3) = false := by simpa using h1
 rw [decide_eq_false (fun h => h1 h.1)]
 clear h1
 go_enter Tryz.func132, Tryz.ntmps132
 go_wp2_with fail
 go_ret
 exact ⟨rfl, HB.out⟩
theorem just_any (n : Nat) (hn : n ≤ 10) (B f : Nat) (d : Dat) (a : Option Addr) (cap : Nat) (w : World) (hB : B ≤ w.heap.size) (hd : Dc (fun k => k < B) w f a d.kids) (hc : d.kids.length ≤ cap) (ho : okD d) :
 Calls Tryz.prog 141 #[dv d a cap, .int .i64 n] w (ToldE (justF d n) (fun l v w' => StrR (w.heap.size + 1) l v w') w) := by
 have HB : Hid (Below w.heap.size w (w.alloc (.cells #[.int .i64 d.kind, .int .i64 d.n, .string d.name, .int .i64 d.stamp, .int .i64 d.lib, .slice a d.kids.length cap] 26))) := (Below.refl _ _).alloc (Nat.le_refl _) _
 have HY := hidd (must_yes 2)
 have HX := hidd (must_no 2)
 unfold justF
 by_cases h1 : d.kind = 4
 rotate_left
 ·rw [if_neg (fun h => h1 h.1)]
  have c1 : (d.kind == 4) = false := by simpa using h1
  clear hd hc ho hB h1
  unfold dv
  generalize d.kids.length = kn at *
  go_enter Tryz.func141, Tryz.ntmps141
  go_wp2_with fail
  refine (HX.out _).mono ?_
  rintro e w1 ⟨rfl, rfl⟩
  go_wp2_with fail
  exact ⟨rfl, HB.out, rfl⟩
 have c1 : (d.kind == 4) = true := by simpa using h1
 by_cases h2 : d.kids.length = n
 ·rw [if_pos ⟨h1, h2⟩]
  obtain ⟨o1, o2⟩ := okD_list ho h1
  have HNM : Hid (∀ W, Below w.heap.size w W → Calls Tryz.prog 80 #[.slice a d.kids.length cap] W (ToldE (namesF d.kids) (fun l v w' => StrR W.heap.size l v w') W)) := fun W hb => namesOf_any B f d.kids a cap W (Nat.le_trans hB hb.size) (hd.below (hb.mono hB)) (by omega) hc (fun x hx => okD_big (okL_mem o2 x hx))
  rw [h2] at HNM
  have HS : Hid ((w.alloc (.cells #[.int .i64 d.kind, .int .i64 d.n, .string d.name, .int .i64 d.stamp, .int .i64 d.lib, .slice a d.kids.length cap] 26)).heap.size = w.heap.size + 1) := by simp [Hid]
  clear hd hc ho hB o1 o2 h1
  unfold dv
  rw [h2] at HB HS ⊢
  clear h2
  have c2 : ((n : Int) == (n : Int)) = true := by simp
  generalize namesF d.kids = R at *
  go_enter Tryz.func141, Tryz.ntmps141
  go_wp2_with fail
  refine (HY.out _).mono ?_
  rintro e w1 ⟨rfl, rfl⟩
  go_wp2_with fail
  refine (HNM.out _ HB.out).mono ?_
  rintro e w2 ⟨hb2, hr⟩
  have HB2 : Hid (Below w.heap.size w w2) := HB.out.trans (hb2.mono HB.out.size)
  cases R with
  | ok l =>
   obtain ⟨v, rfl, hv⟩ := hr
   rw [HS.out] at hv
   have HV := hidd hv
   clear hv hb2
   go_wp2_with fail
   go_ret
   exact ⟨HB2.out, _, rfl, HV.out⟩
  | no x =>
   have hr' : e = .panicked (thrownL x) := hr
   subst hr'
   clear hr hb2
   go_wp2_with fail
   exact ⟨rfl, HB2.out, rfl⟩
 rw [if_neg (fun h => h2 h.2)]
 have c2 : ((d.kids.length : Int) == (n : Int)) = false := by simp; omega
 clear hd hc ho hB h1
 unfold dv
 generalize d.kids.length = kn at *
 go_enter Tryz.func141, Tryz.ntmps141
 go_wp2_with fail
 refine (HX.out _).mono ?_
 rintro e w1 ⟨rfl, rfl⟩
 go_wp2_with fail
 exact ⟨rfl, HB.out, rfl⟩
end Go.Proofs.YtonafbennobgdaaGreatDoor
