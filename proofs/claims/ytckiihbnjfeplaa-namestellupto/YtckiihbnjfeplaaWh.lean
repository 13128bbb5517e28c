/- Package names: what is renamed. -/
import Derived.Test.YtckiihbnjfeplaaWg
import Derived.Deep.RegionLaw
import Derived.Deep.AppendLies
import Derived.Deep.Onto
namespace Go.Proofs.Ytckiihbnjfeplaa
set_option linter.unusedVariables false
set_option linter.unusedSimpArgs false
open Go.RowKit Go.Maps Go.WideMaps

theorem plc_cons (n : ByteArray) (ns : List ByteArray) (h : ByteArray) : plc (n :: ns) h = if n = h then some 0 else (plc ns h).map (· + 1) := by
  unfold plc
  rw [List.findIdx?_cons]
  by_cases e : n = h <;> simp [e]
theorem callD_plc : ∀ (ns asl : List ByteArray) (h : ByteArray), asl.length = ns.length → callD ns asl h = match plc ns h with | some i => (asl[i]?).getD h | none => h
  | [], asl, h, _ => by unfold callD; rfl
  | n :: ns, [], h, hl => by simp at hl
  | n :: ns, a :: asl, h, hl => by
    have ih := callD_plc ns asl h (by simpa using hl)
    unfold callD
    rw [plc_cons]
    by_cases e : n = h
    · subst e
      simp
    · have e' : ¬ h = n := fun h => e h.symm
      rw [if_neg e', if_neg e, ih]
      cases plc ns h <;> simp

set_option maxRecDepth 100000 in
set_option maxHeartbeats 1600000 in
/-- The closure that tells what a name is called. -/
theorem called_any (B qb pb mb n sb : Nat) (ns asl : List ByteArray) (a1 : Option Addr) (c1 : Nat) (s : ByteArray) (hs : s.size ≤ maxLen) (w : World) (hlen : asl.length = ns.length)
    (hq : w.cell? ⟨qb, 0, none⟩ = some (.func (.func 33) #[] #[.pointer (some ⟨pb, 0, none⟩)])) (hc : w.cell? ⟨pb, 0, none⟩ = some (.map (some mb))) (hm : MapIs mb n (plc ns) w)
    (h3 : w.cell? ⟨sb, 3, none⟩ = some (.slice a1 asl.length c1)) (ha : Strs B w a1 asl) :
    Calls Try.prog 37 #[.string s, .pointer (some ⟨qb, 0, none⟩), .pointer (some ⟨sb, 0, none⟩), .pointer (some ⟨pb, 0, none⟩)] w fun e w' => e = .returned (.string (callD ns asl s)) ∧ w' = w := by
  have ask := asked_any pb mb n (plc ns) s hs w hc hm
  have hcl := callD_plc ns asl s hlen
  have HM : Hid (MapIs mb n (plc ns) w) := hm
  clear hm
  cases hp : plc ns s with
  | some i =>
    rw [hp] at ask hcl
    have hi : i < asl.length := by rw [hlen]; exact (plc_some hp).1
    obtain ⟨b, o, t, rfl, hbB, ht, hct, hz⟩ := ha.at hi
    simp only [ht, Option.getD_some] at hcl
    have HC : Hid (callD ns asl s = t) := hcl
    have AS : Hid (Calls Try.prog 33 #[.string s, .pointer (some ⟨pb, 0, none⟩)] w fun e w' => e = .returned (.bool true) ∧ w' = w) := ask
    have HG : Hid (plc ns s = some i) := hp
    have hal := ha.1
    clear ask hcl hp ht ha hlen
    go_enter Try.func37, Try.ntmps37
    go_wp2_with fail
    refine AS.out.mono ?_
    rintro e w' ⟨rfl, rfl⟩
    go_wp2_with (at_lookup; refine wpList_look_at rfl _ _ rfl rfl HM.out s rfl hs i HG.out ?_)
    go_ret
    exact ⟨retS HC.out.symm, rfl⟩
  | none =>
    rw [hp] at ask hcl
    have HC : Hid (callD ns asl s = s) := hcl
    have AS : Hid (Calls Try.prog 33 #[.string s, .pointer (some ⟨pb, 0, none⟩)] w fun e w' => e = .returned (.bool false) ∧ w' = w) := ask
    clear ask hcl hp ha hlen
    go_enter Try.func37, Try.ntmps37
    go_wp2_with fail
    refine AS.out.mono ?_
    rintro e w' ⟨rfl, rfl⟩
    go_wp2_with fail
    go_ret
    exact ⟨retS HC.out.symm, rfl⟩

/-- Renamed, so far. -/
structure Ren (f : ByteArray → ByteArray) (ps : List Pr) (j : Nat) (qs : List Pr) (g : ByteArray → Option Nat) : Prop where
  same : qs = (ps.take j).map fun p => (f p.1, p.2)
  nodup : (qs.map (·.1)).Nodup
  seen : ∀ s, (g s).isSome = decide (s ∈ qs.map (·.1))

theorem Ren.start (f : ByteArray → ByteArray) (ps : List Pr) : Ren f ps 0 [] (fun _ => none) := ⟨rfl, by simp, fun s => by simp⟩
theorem Ren.next {f : ByteArray → ByteArray} {ps : List Pr} {j : Nat} {qs : List Pr} {g : ByteArray → Option Nat} (h : Ren f ps j qs g) {p1 p2 : ByteArray} (hp : ps[j]? = some (p1, p2)) (hn : g (f p1) = none) :
    Ren f ps (j + 1) (qs ++ [(f p1, p2)]) (fun t => if t = f p1 then some j else g t) := by
  have hnew : f p1 ∉ qs.map (·.1) := by
    have := h.seen (f p1)
    rw [hn] at this
    simpa using this.symm
  refine ⟨?_, ?_, ?_⟩
  · rw [take_put hp, List.map_append, ← h.same]
    rfl
  · rw [List.map_append, List.nodup_append]
    refine ⟨h.nodup, by simp, ?_⟩
    intro x hx y hy e
    simp at hy
    rw [e, hy] at hx
    exact hnew hx
  · intro s
    by_cases e : s = f p1
    · simp [e]
    · show (if s = f p1 then some j else g s).isSome = _
      rw [if_neg e, h.seen s]
      refine decide_eq_decide.2 ?_
      rw [List.map_append, List.mem_append]
      constructor
      · exact Or.inl
      · rintro (h | h)
        · exact h
        · simp at h; exact absurd h e
theorem Ren.stop {f : ByteArray → ByteArray} {ps : List Pr} {j i : Nat} {qs : List Pr} {g : ByteArray → Option Nat} (h : Ren f ps j qs g) {p1 p2 : ByteArray} (hp : ps[j]? = some (p1, p2)) (hn : g (f p1) = some i) : ¬ (ps.map fun p => f p.1).Nodup := by
  intro hd
  have hin : f p1 ∈ qs.map (·.1) := by
    have := h.seen (f p1)
    rw [hn] at this
    simpa using this.symm
  have hsub : ((ps.take (j + 1)).map fun p => f p.1).Nodup := by
    refine List.Sublist.nodup (List.Sublist.map _ (List.take_sublist _ _)) hd
  rw [take_put hp, List.map_append, List.nodup_append] at hsub
  refine hsub.2.2 (f p1) ?_ (f p1) (by simp) rfl
  rw [h.same, List.map_map] at hin
  exact hin

theorem two_news (w : World) (a b : ByteArray) : ∀ (j : Nat) (u : Value), [Value.string a, .string b][j]? = some u → (w.alloc (.cells #[.string a, .string b] 43)).cell? ((⟨w.heap.size, 0, none⟩ : Addr).add j) = some u := by
  intro q u hq
  have hcell := World.cell?_alloc_mark w #[.string a, .string b] 43 (0, 0) q
  rw [addr_add, hcell]
  simpa using hq
theorem two_one (a b : ByteArray) : ∀ u ∈ [Value.string a, .string b], u.oneCell' = true := by
  intro u hu
  simp at hu
  rcases hu with rfl | rfl <;> rfl

theorem after_two {N n : Nat} {g : ByteArray → Option Nat} {v : Value} {qs : List Pr} {w w1 w2 : World} (h : Below N w w1 ∧ MapIs N n g w1 ∧ RowP (N + 1) v qs w1) (hb : Below w1.heap.size w1 w2) : Below N w w2 ∧ MapIs N n g w2 ∧ RowP (N + 1) v qs w2 :=
  ⟨h.1.trans (hb.mono (Nat.le_of_lt h.2.1.lt)), h.2.1.below hb, h.2.2.below hb⟩
theorem after_push {N n g' cap' : Nat} {g : ByteArray → Option Nat} {v : Value} {qs : List Pr} {t p2 : ByteArray} {w w2 w3 : World} {o : Obj} (h : Below N w w2 ∧ MapIs N n g w2 ∧ RowP (N + 1) v qs w2)
    (hown : w3.ownsRow (N + 1) 43 2 (.slice (some ⟨g', 0, none⟩) (qs.length + 1) cap') (qs.length + 1) (flatP qs ++ [.string t, .string p2])) (hg : (w2.alloc o).grownBy w3 v.ownBlock) :
    Below N w w3 ∧ MapIs N n g w3 ∧ RowP (N + 1) (.slice (some ⟨g', 0, none⟩) (qs.length + 1) cap') (qs ++ [(t, p2)]) w3 := by
  have hlt := h.2.1.lt
  have hr : ∀ k, v.ownBlock = some k → N + 1 ≤ k := fun k hk => (World.ownsRow.lt h.2.2 k hk).1
  refine ⟨Below.grown (h.1.alloc (Nat.le_of_lt hlt) _) hg (by simp; omega) (fun k hk => by have := hr k hk; omega), ?_, ?_⟩
  · refine h.2.1.kept ((hg.block N (by simp; omega) ?_).trans (Below.heap_alloc _ _ _ hlt))
    intro e
    have := hr N e.symm
    omega
  · unfold RowP
    rw [show flatP (qs ++ [(t, p2)]) = flatP qs ++ [.string t, .string p2] by simp [flatP, encP], List.length_append]
    exact hown

set_option maxRecDepth 100000 in
set_option maxHeartbeats 6400000 in
theorem renamed_any (B : Nat) (l : Ly) (ps : List Pr) (c : Option Addr) (cc : Nat) (x1 x2 x3 : Value) (w : World) (h : Prs B w c ps) (hB : B ≤ w.heap.size) (hl : ps.length ≤ 200) (hsz : ∀ p ∈ ps, p.1.size ≤ 20)
    (hf : ∀ (W : World) (s : ByteArray), Below w.heap.size w W → s.size ≤ 20 → Calls Try.prog 37 #[.string s, x1, x2, x3] W fun e w' => e = .returned (.string (callD l.names l.asn s)) ∧ w' = W)
    (hfs : ∀ s : ByteArray, s.size ≤ 20 → (callD l.names l.asn s).size ≤ 20) :
    Calls Try.prog 36 #[.slice c ps.length cc, .func (.func 37) #[] #[x1, x2, x3]] w (OutP (rena l ps) w) := by
  have HP : Hid (Prs B w c ps ∧ B ≤ w.heap.size ∧ ∀ p ∈ ps, p.1.size ≤ 20) := ⟨h, hB, hsz⟩
  obtain ⟨f, HFN⟩ : ∃ f, Hid (callD l.names l.asn = f) := ⟨_, rfl⟩
  rw [HFN.out] at hf hfs
  have HF : Hid (∀ (W : World) (s : ByteArray), Below w.heap.size w W → s.size ≤ 20 → Calls Try.prog 37 #[.string s, x1, x2, x3] W fun e w' => e = .returned (.string (f s)) ∧ w' = W) := hf
  have HFS : Hid (∀ s : ByteArray, s.size ≤ 20 → (f s).size ≤ 20) := hfs
  clear h hB hsz hf hfs
  have hmm := @run_makeMap Try.prog
  obtain ⟨i0, hinf, hz0, hz1, hz2⟩ := info_parts infoPair
  obtain ⟨R, HRR⟩ : ∃ R, Hid (rena l ps = R) := ⟨_, rfl⟩
  rw [HRR.out]
  go_enter Try.func36, Try.ntmps36
  go_wp2_with fail
  go_loopw [7, 16] (fun v i wr => ∃ (j : Nat) (qs : List Pr) (g : ByteArray → Option Nat), j ≤ ps.length ∧ i = .int .i64 j ∧ Hid (Ren f ps j qs g) ∧ Below w.heap.size w wr ∧ MapIs w.heap.size j g wr ∧ RowP (w.heap.size + 1) v qs wr) (fun _ i _ => ps.length - (intOf i).toNat)
  case atStart => exact ⟨0, [], _, Nat.zero_le _, rfl, Ren.start f ps, (Below.refl _ _).alloc (Nat.le_refl _) _, MapIs.made w, RowP.nil _ _⟩
  case round =>
    obtain ⟨j, qs, g, hj, rfl, HN, hb, hm, hr⟩ := hrel
    have hN := hm.lt
    have HR : Hid (Below w.heap.size w wr ∧ MapIs w.heap.size j g wr ∧ RowP (w.heap.size + 1) u7 qs wr) := ⟨hb, hm, hr⟩
    have hql : qs.length ≤ 200 := by
      rw [HN.out.same, List.length_map, List.length_take]
      omega
    by_cases hlt : j < ps.length
    · obtain ⟨b, o, p, rfl, hbB, hs, hc0, hc1⟩ := HP.out.1.at hlt
      have k0 := (hb.cell (p := ⟨b, o + j * 2, none⟩) (Nat.lt_of_lt_of_le hbB HP.out.2.1)).trans hc0
      have k1 := (hb.cell (p := ⟨b, o + j * 2 + 1, none⟩) (Nat.lt_of_lt_of_le hbB HP.out.2.1)).trans hc1
      have hp1 := HP.out.2.2 _ (List.mem_of_getElem? hs)
      obtain ⟨p1, p2⟩ := p
      simp only at hp1
      have HX : Hid (ps[j]? = some (p1, p2)) := hs
      simp only at k0 k1
      have ask := HF.out (wr.alloc (.cells #[.string p1, .string p2] 43)) p1 (hb.alloc hb.size _) hp1
      obtain ⟨t, HT⟩ : ∃ t, Hid (f p1 = t) := ⟨_, rfl⟩
      have hts : t.size ≤ 20 := by rw [← HT.out]; exact HFS.out p1 hp1
      have htm : t.size ≤ maxLen := by unfold maxLen; omega
      rw [HT.out] at ask
      have AS : Hid (Calls Try.prog 37 #[.string p1, x1, x2, x3] (wr.alloc (.cells #[.string p1, .string p2] 43)) fun e w' => e = .returned (.string t) ∧ w' = (wr.alloc (.cells #[.string p1, .string p2] 43))) := ask
      have CL : Hid (∀ w, Calls Try.prog 23 #[.string t] w fun e w' => e = .returned (.string t) ∧ Below w.heap.size w w') := fun w => Clone_any t (by omega) w
      have hjm : j < maxLen := by unfold maxLen; omega
      clear ask hc0 hc1 hs hb hm hr
      cases hp : g t with
      | some i =>
        have HG : Hid (g t = some i) := hp
        have HE : Hid (R = .inl 8) := HRR.out.symm.trans (by
          unfold rena
          rw [HFN.out, if_neg (HN.out.stop HX.out (by rw [HT.out]; exact HG.out))])
        clear hp
        go_wp2_with fail
        refine AS.out.mono ?_
        rintro e w' ⟨rfl, rfl⟩
        go_wp2_with (at_lookup; refine wpList_look_yes rfl _ _ rfl rfl (HR.out.2.1.below ((Below.refl _ _).alloc (Nat.le_refl _) _)) t rfl htm i HG.out ?_)
        go_ret2
        rw [HE.out]
        exact ⟨HR.out.1.alloc HR.out.1.size _, rfl⟩
      | none =>
        have HG : Hid (g t = none) := hp
        have HN2 : Hid (Ren f ps (j + 1) (qs ++ [(t, p2)]) (fun s => if s = t then some j else g s)) := by
          have := HN.out.next HX.out (by rw [HT.out]; exact HG.out)
          rw [HT.out] at this
          exact this
        clear hp
        go_wp2_with fail
        refine AS.out.mono ?_
        rintro e w' ⟨rfl, rfl⟩
        go_wp2_with (first | (at_lookup; refine wpList_look_no rfl _ _ rfl rfl (HR.out.2.1.below ((Below.refl _ _).alloc (Nat.le_refl _) _)) t rfl htm HG.out ?_) | (at_mapUpdate; refine wpList_mark rfl _ _ _ rfl rfl (HR.out.2.1.below ((Below.refl _ _).alloc (Nat.le_refl _) _)) hjm t rfl htm j rfl (by omega) ?_))
        intro w1 hm1 hg1
        have H1 : Hid (Below w.heap.size w w1 ∧ MapIs w.heap.size (j + 1) (fun s => if s = t then some j else g s) w1 ∧ RowP (w.heap.size + 1) u7 qs w1) :=
          ⟨Below.grown (HR.out.1.alloc HR.out.1.size _) hg1 (by have := HR.out.1.size; simp; omega) (fun k hk => by cases hk; exact Nat.le_refl _), hm1, World.ownsRow.kept (HR.out.2.2.alloc _) hg1 (by
            cases hv : u7.ownBlock with
            | none => exact Or.inl rfl
            | some k =>
              refine Or.inr ?_
              have := (World.ownsRow.lt HR.out.2.2 k hv).1
              intro e
              cases e
              omega)⟩
        have hs1 : wr.heap.size < w1.heap.size := by have := hg1.size; simp at this; omega
        have q1 : w1.cell? ⟨wr.heap.size, 1, none⟩ = some (.string p2) := hg1.cell (a := ⟨wr.heap.size, 1, none⟩) (by simp [go_sem]) (by simp; omega)
        clear hm1 hg1 k0 k1
        go_wp2_with fail
        go_region_law (first
          | (refine step_append_lies _ rfl (.tmp 35) (.tmp 41) 27 rfl (w.heap.size + 1) 43 i0 _ 2 32 Try.underlying27 hinf hz0 hz1 hz2 rfl (by decide) u7 qs.length (flatP qs) rfl (by exact World.ownsRow.alloc H2.out.2.2 _) ⟨w2.heap.size, 0, none⟩ 1 1 [.string t, .string p2] rfl rfl (by exact two_news w2 _ _) (by exact two_one _ _) (by decide) (by unfold maxLen; omega) (by omega) (by have := H2.out.2.1.lt; simp; omega) (w2.heap.size + 1) (by simp) ?_; intro g' cap' w3 hown hgrow hat hlt3)
          | (go_simp; go_at_call 23; refine (CL.out _).mono ?_; rintro e w2 ⟨rfl, hb2⟩; have H2 : Hid (Below w.heap.size w w2 ∧ MapIs w.heap.size (j + 1) (fun s => if s = t then some j else g s) w2 ∧ RowP (w.heap.size + 1) u7 qs w2) := after_two H1.out ((Below.refl w1.heap.size w1).drew.trans hb2); have q2 : w2.cell? ⟨wr.heap.size, 1, none⟩ = some (.string p2) := (hb2.cell (p := ⟨wr.heap.size, 1, none⟩) (by simpa using hs1)).trans (by simpa [go_sem] using q1); clear hb2; dsimp only))
        all_goals
          have H3 : Hid (Below w.heap.size w w3 ∧ MapIs w.heap.size (j + 1) (fun s => if s = t then some j else g s) w3 ∧ RowP (w.heap.size + 1) (.slice (some ⟨g', 0, none⟩) (qs.length + 1) cap') (qs ++ [(t, p2)]) w3) := after_push H2.out hown hgrow
          clear hown hgrow hat hlt3 H2 H1
          go_wp2_with fail
          go_roundw
          case rel => exact ⟨j + 1, _, _, by omega, by go_num, HN2.out, H3.out.1, H3.out.2.1, H3.out.2.2⟩
          case measure => simp [intOf]; omega
    · obtain rfl : j = ps.length := by omega
      clear hb hm hr
      have HE : Hid (R = .inr qs) := HRR.out.symm.trans (by
        have h1 := HN.out.same
        have h2 := HN.out.nodup
        rw [List.take_length] at h1
        unfold rena
        rw [HFN.out, if_pos (by rw [h1, List.map_map] at h2; exact h2), h1])
      go_wp2_with fail
      go_ret2
      rw [HE.out]
      exact ⟨HR.out.1, _, rfl, HR.out.2.2.mono (Nat.le_succ _)⟩
end Go.Proofs.Ytckiihbnjfeplaa
