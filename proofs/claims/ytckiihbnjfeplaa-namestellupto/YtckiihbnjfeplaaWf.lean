/- Package names: whether all names are brought; closures that ask. -/
import Derived.Test.YtckiihbnjfeplaaWe
namespace Go.Proofs.Ytckiihbnjfeplaa
set_option linter.unusedVariables false
set_option linter.unusedSimpArgs false
open Go.RowKit Go.Maps Go.WideMaps

/-- Whether all names are among those of pairs. -/
def allIn (ns : List ByteArray) (ps : List Pr) : Bool := ns.all fun n => decide (n ∈ ps.map (·.1))

theorem mark_in {g : ByteArray → Option Nat} {ps : List Pr} {j : Nat} {p1 p2 : ByteArray} (hg : ∀ s, (g s).isSome = decide (s ∈ (ps.take j).map (·.1))) (h : ps[j]? = some (p1, p2)) (s : ByteArray) :
    ((fun t => if t = p1 then some j else g t) s : Option Nat).isSome = decide (s ∈ (ps.take (j + 1)).map (·.1)) := by
  rw [take_put h, List.map_append]
  by_cases e : s = p1
  · simp [e]
  · have : ((fun t => if t = p1 then some j else g t) s : Option Nat) = g s := by simp [e]
    rw [this, hg s]
    have : (s ∈ (ps.take j).map (·.1) ++ [(p1, p2)].map (·.1)) ↔ s ∈ (ps.take j).map (·.1) := by
      rw [List.mem_append]
      constructor
      · rintro (h | h)
        · exact h
        · simp at h; exact absurd h e
      · exact Or.inl
    exact decide_eq_decide.2 this.symm

set_option maxRecDepth 100000 in
set_option maxHeartbeats 3200000 in
theorem allBrought_any (B : Nat) (ns : List ByteArray) (ps : List Pr) (a c : Option Addr) (ca cc : Nat) (w : World) (h : Strs B w a ns) (h' : Prs B w c ps) (hB : B ≤ w.heap.size) (hl : ps.length ≤ 200) (hsz : ∀ p ∈ ps, p.1.size ≤ 20) :
    Calls Try.prog 32 #[.slice a ns.length ca, .slice c ps.length cc] w fun e w' => e = .returned (.bool (allIn ns ps)) ∧ Below w.heap.size w w' := by
  have hnl := h.1
  have HS : Hid (Strs B w a ns ∧ B ≤ w.heap.size) := ⟨h, hB⟩
  have HP : Hid (Prs B w c ps ∧ ∀ p ∈ ps, p.1.size ≤ 20) := ⟨h', hsz⟩
  clear h hB hsz h'
  have hmm := @run_makeMap Try.prog
  go_enter Try.func32, Try.ntmps32
  go_wp2_with fail
  go_loopw [15] (fun i wr => ∃ (j : Nat) (g : ByteArray → Option Nat), j ≤ ps.length ∧ i = .int .i64 j ∧ Hid (∀ s, (g s).isSome = decide (s ∈ (ps.take j).map (·.1))) ∧ Below w.heap.size w wr ∧ MapIs w.heap.size j g wr) (fun i _ => ps.length - (intOf i).toNat)
  case atStart => exact ⟨0, _, Nat.zero_le _, rfl, fun s => by simp, (Below.refl _ _).alloc (Nat.le_refl _) _, MapIs.made w⟩
  case round =>
    obtain ⟨j, g, hj, rfl, HG, hb, hm⟩ := hrel
    have HM : Hid (Below w.heap.size w wr ∧ MapIs w.heap.size j g wr) := ⟨hb, hm⟩
    by_cases hlt : j < ps.length
    · obtain ⟨b, o, p, rfl, hbB, hs, hc0, hc1⟩ := HP.out.1.at hlt
      have k0 := (hb.cell (p := ⟨b, o + j * 2, none⟩) (Nat.lt_of_lt_of_le hbB HS.out.2)).trans hc0
      have k1 := (hb.cell (p := ⟨b, o + j * 2 + 1, none⟩) (Nat.lt_of_lt_of_le hbB HS.out.2)).trans hc1
      obtain ⟨p1, p2⟩ := p
      have HX : Hid (ps[j]? = some (p1, p2) ∧ p1.size ≤ maxLen) := ⟨hs, by have := HP.out.2 _ (List.mem_of_getElem? hs); simp only at this; unfold maxLen; omega⟩
      have hjm : j < maxLen := by unfold maxLen; omega
      simp only at k0 k1
      clear hc0 hc1 hs hb hm
      go_wp2_with (at_mapUpdate; refine wpList_mark rfl _ _ _ rfl rfl (HM.out.2.below ((Below.refl _ _).alloc (Nat.le_refl _) _)) hjm p1 rfl HX.out.2 j rfl (by omega) ?_)
      intro w1 hm1 hg1
      have HM1 : Hid (Below w.heap.size w w1 ∧ MapIs w.heap.size (j + 1) (fun t => if t = p1 then some j else g t) w1 ∧ ∀ s, (((fun t => if t = p1 then some j else g t) s : Option Nat)).isSome = decide (s ∈ (ps.take (j + 1)).map (·.1))) := by
        refine ⟨Below.grown (HM.out.1.alloc HM.out.1.size _) hg1 (by have := HM.out.1.size; simp; omega) (fun k hk => by cases hk; exact Nat.le_refl _), hm1, mark_in HG.out HX.out.1⟩
      clear hm1 hg1 k0 k1
      go_wp2_with fail
      go_roundw
      case rel => exact ⟨j + 1, _, by omega, by go_num, HM1.out.2.2, HM1.out.1, HM1.out.2.1⟩
      case measure => simp [intOf]; omega
    · obtain rfl : j = ps.length := by omega
      clear hb hm
      have HG2 : Hid (∀ s, (g s).isSome = decide (s ∈ ps.map (·.1))) := fun s => by
        have := HG.out s
        rwa [List.take_length] at this
      clear HG
      go_wp2_with fail
      go_loop [27] (fun i => ∃ j : Nat, j ≤ ns.length ∧ i = .int .i64 j ∧ (ns.take j).all (fun n => decide (n ∈ ps.map (·.1))) = true) (fun i => ns.length - (intOf i).toNat)
      case atStart => exact ⟨0, Nat.zero_le _, rfl, rfl⟩
      case round =>
        obtain ⟨j, hj, rfl, ha⟩ := hrel
        have HA : Hid ((ns.take j).all (fun n => decide (n ∈ ps.map (·.1))) = true) := ha
        clear ha
        by_cases hlt2 : j < ns.length
        · obtain ⟨b, o, s, rfl, hbB, hs, hc, hz⟩ := HS.out.1.at hlt2
          have hc' := (HM.out.1.cell (p := ⟨b, o + j, none⟩) (Nat.lt_of_lt_of_le hbB HS.out.2)).trans hc
          have HX : Hid (ns[j]? = some s ∧ s.size ≤ maxLen) := ⟨hs, hz⟩
          clear hc hs hz
          cases hp : g s with
          | some i =>
            have HGS : Hid (g s = some i) := hp
            have HIN : Hid (decide (s ∈ ps.map (·.1)) = true) := by
              show decide (s ∈ ps.map (·.1)) = true
              rw [← HG2.out s, hp]
              rfl
            clear hp
            go_wp2_with (at_lookup; refine wpList_look_yes rfl _ _ rfl rfl HM.out.2 s rfl HX.out.2 i HGS.out ?_)
            go_round
            case rel => exact ⟨j + 1, by omega, by go_num, take_all_succ HX.out.1 HA.out HIN.out⟩
            case measure => simp [intOf]; omega
          | none =>
            have HGS : Hid (g s = none) := hp
            have HIN : Hid (decide (s ∈ ps.map (·.1)) = false) := by
              show decide (s ∈ ps.map (·.1)) = false
              rw [← HG2.out s, hp]
              rfl
            clear hp
            go_wp2_with (at_lookup; refine wpList_look_no rfl _ _ rfl rfl HM.out.2 s rfl HX.out.2 HGS.out ?_)
            go_ret
            exact ⟨retB (take_all_stop (p := fun n => decide (n ∈ ps.map (fun x : Pr => x.1))) HX.out.1 HIN.out).symm, HM.out.1⟩
        · obtain rfl : j = ns.length := by omega
          go_wp2_with fail
          go_ret
          refine ⟨retB ?_, HM.out.1⟩
          have := HA.out
          rw [List.take_length] at this
          exact this.symm

set_option maxRecDepth 100000 in
set_option maxHeartbeats 800000 in
/-- The closure that asks whether a name stands in a map of places. -/
theorem asked_any (pb mb n : Nat) (g : ByteArray → Option Nat) (s : ByteArray) (hs : s.size ≤ maxLen) (w : World) (hc : w.cell? ⟨pb, 0, none⟩ = some (.map (some mb))) (hm : MapIs mb n g w) :
    Calls Try.prog 33 #[.string s, .pointer (some ⟨pb, 0, none⟩)] w fun e w' => e = .returned (.bool (g s).isSome) ∧ w' = w := by
  have HM : Hid (MapIs mb n g w) := hm
  clear hm
  cases hp : g s with
  | some i =>
    have HG : Hid (g s = some i) := hp
    clear hp
    go_enter Try.func33, Try.ntmps33
    go_wp2_with (at_lookup; refine wpList_look_yes rfl _ _ rfl rfl HM.out s rfl hs i HG.out ?_)
    go_ret
    exact ⟨rfl, rfl⟩
  | none =>
    have HG : Hid (g s = none) := hp
    clear hp
    go_enter Try.func33, Try.ntmps33
    go_wp2_with (at_lookup; refine wpList_look_no rfl _ _ rfl rfl HM.out s rfl hs HG.out ?_)
    go_ret
    exact ⟨rfl, rfl⟩

set_option maxRecDepth 100000 in
set_option maxHeartbeats 800000 in
/-- .. and the one that turns it round. -/
theorem unasked_any (qb pb mb n : Nat) (g : ByteArray → Option Nat) (s : ByteArray) (hs : s.size ≤ maxLen) (w : World) (hq : w.cell? ⟨qb, 0, none⟩ = some (.func (.func 33) #[] #[.pointer (some ⟨pb, 0, none⟩)])) (hc : w.cell? ⟨pb, 0, none⟩ = some (.map (some mb))) (hm : MapIs mb n g w) :
    Calls Try.prog 35 #[.string s, .pointer (some ⟨qb, 0, none⟩)] w fun e w' => e = .returned (.bool (!(g s).isSome)) ∧ w' = w := by
  have AS : Hid (Calls Try.prog 33 #[.string s, .pointer (some ⟨pb, 0, none⟩)] w fun e w' => e = .returned (.bool (g s).isSome) ∧ w' = w) := asked_any pb mb n g s hs w hc hm
  clear hm hc
  generalize (g s).isSome = d at AS ⊢
  go_enter Try.func35, Try.ntmps35
  go_wp2_with fail
  refine AS.out.mono ?_
  rintro e w' ⟨rfl, rfl⟩
  go_wp2_with fail
  go_ret
  exact ⟨rfl, rfl⟩
end Go.Proofs.Ytckiihbnjfeplaa
