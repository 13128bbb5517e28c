/- Package graph: ranked. -/
import Derived.Test.YtilcongilokppadLb
namespace Go.Proofs.Ytilcongilokppad
set_option linter.unusedVariables false
set_option linter.unusedSimpArgs false
open Go.RowKit Go.Maps Go.WideMaps

/-- Names that are there, all at place 0. -/
def zeros (l : List ByteArray) (t : ByteArray) : Option Nat := if t ∈ l then some 0 else none
theorem zeros_snoc (l : List ByteArray) (s t : ByteArray) : zeros (l ++ [s]) t = if t = s then some 0 else zeros l t := by
  unfold zeros
  by_cases h : t = s
  · simp [h]
  · simp [h]
/-- The first j have their places. -/
def partly (S l : List ByteArray) (j : Nat) (t : ByteArray) : Option Nat := match plc (S.take j) t with | some i => some i | none => zeros l t
theorem partly_step {S l : List ByteArray} {j : Nat} {s : ByteArray} (hn : S.Nodup) (h : S[j]? = some s) (t : ByteArray) : partly S l (j + 1) t = if t = s then some j else partly S l j t := by
  have hp : plc (S.take j) s = none := plc_none.2 fun c => by
    obtain ⟨i, hi⟩ := List.mem_iff_getElem?.1 c
    rw [List.getElem?_take] at hi
    split at hi
    · rename_i hlt
      have h1 := plc_at hn hi
      rw [plc_at hn h] at h1
      simp at h1
      omega
    · cases hi
  unfold partly
  rw [plc_step_new h hp]
  by_cases e : t = s
  · simp [e]
  · simp [e]
theorem partly_all {S l : List ByteArray} (hp : S.Perm l) (t : ByteArray) : partly S l S.length t = plc S t := by
  unfold partly
  rw [List.take_length]
  cases e : plc S t with
  | some i => rfl
  | none =>
    have := plc_none.1 e
    simp [zeros]
    exact fun c => this (hp.mem_iff.2 c)
theorem dup_put {seen r : List ByteArray} {x : ByteArray} : dup seen (x :: r) = if x ∈ seen then some x else dup (seen ++ [x]) r := rfl

theorem MapIs.no_cell {b n : Nat} {g : ByteArray → Option Nat} {w : World} (h : MapIs b n g w) (k : Nat) : w.cell? ⟨b, k, none⟩ = none := by
  obtain ⟨D, ⟨es, clock, hb, F, hs, hD⟩, h2, h3⟩ := h
  simp [World.cell?, hb]
theorem MapIs.grown {b n k : Nat} {g : ByteArray → Option Nat} {w w' : World} (h : MapIs b n g w) (hb : Below k w w') (hk : b < k) : MapIs b n g w' := h.kept (hb.block b hk)

set_option maxRecDepth 100000 in
set_option maxHeartbeats 6400000 in
theorem ranked_any (B : Nat) (l : List Nd) (a : Option Addr) (c : Nat) (w : World) (h : Nds B w a l) (hB : B ≤ w.heap.size) :
    Calls Try.prog 13 #[.slice a l.length c] w fun e w' => Below w.heap.size w w' ∧ ((∃ x, dup [] (l.map Nd.name) = some x ∧ x.size ≤ 1048576 ∧ e = .returned (.tuple #[.map none, .string x, .int .i64 8])) ∨
      (∃ S, Ranks l S ∧ e = .returned (.tuple #[.map (some w.heap.size), .string ⟨#[]⟩, .int .i64 0]) ∧ MapIs w.heap.size 2097152 (plc S) w')) := by
  have hl := h.1
  have HS : Hid (Nds B w a l ∧ B ≤ w.heap.size) := ⟨h, hB⟩
  clear h hB
  have hmm := @run_makeMap Try.prog
  go_enter Try.func13, Try.ntmps13
  go_wp2_with fail
  go_loopw [6, 16] (fun v i wr => ∃ (j : Nat) (ns : List ByteArray), j ≤ l.length ∧ i = .int .i64 j ∧ Hid (ns = (l.take j).map Nd.name ∧ ns.Nodup ∧ dup [] (l.map Nd.name) = dup ns ((l.drop j).map Nd.name)) ∧ Hid (Below w.heap.size w wr ∧ MapIs w.heap.size j (zeros ns) wr ∧ RowS (w.heap.size + 1) v ns wr)) (fun _ i _ => l.length - (intOf i).toNat)
  case atStart => exact ⟨0, [], Nat.zero_le _, rfl, ⟨by simp, List.nodup_nil, by simp⟩, (Below.refl _ _).alloc (Nat.le_refl _) _, (MapIs.made w).congr (fun s => by simp [zeros]), RowS.nil _ _⟩
  case round =>
    obtain ⟨j, ns, hj, rfl, HN, HR⟩ := hrel
    have HNL : Hid (ns.length = j) := by
      show ns.length = j
      rw [HN.out.1]
      simp
      omega
    have hnl : ns.length ≤ 1048576 := by rw [HNL.out]; omega
    by_cases hlt : j < l.length
    · obtain ⟨b, o, nd, na, nc, rfl, hbB, hnd, hc1, hc2, hst, hz, hz2⟩ := HS.out.1.at hlt
      have k1 := (HR.out.1.cell (p := ⟨b, o + j * 2, none⟩) (Nat.lt_of_lt_of_le hbB HS.out.2)).trans hc1
      have k2 := (HR.out.1.cell (p := ⟨b, o + j * 2 + 1, none⟩) (Nat.lt_of_lt_of_le hbB HS.out.2)).trans hc2
      have HX : Hid (l[j]? = some nd) := hnd
      have hdrop : (l.drop j).map Nd.name = nd.name :: (l.drop (j + 1)).map Nd.name := by
        obtain ⟨hl', he⟩ := List.getElem?_eq_some_iff.1 hnd
        rw [List.drop_eq_getElem_cons hl', he]
        rfl
      have HD : Hid ((l.drop j).map Nd.name = nd.name :: (l.drop (j + 1)).map Nd.name) := hdrop
      have hnm : nd.name.size ≤ maxLen := by unfold maxLen; omega
      have hjm : j < maxLen := by unfold maxLen; omega
      have HM : Hid (MapIs w.heap.size j (zeros ns) (wr.alloc (.cells #[.string nd.name, .slice na nd.needs.length nc] 32))) := HR.out.2.1.below ((Below.refl _ _).alloc (Nat.le_refl _) _)
      clear hnd hc1 hc2 hst hdrop
      by_cases hin : nd.name ∈ ns
      · have HZ : Hid (zeros ns nd.name = some 0) := by show zeros ns nd.name = some 0; simp [zeros, hin]
        have HE : Hid (dup [] (l.map Nd.name) = some nd.name) := by
          show dup [] (l.map Nd.name) = some nd.name
          rw [HN.out.2.2, HD.out, dup_put, if_pos hin]
        clear hin
        go_wp2_with (at_lookup; refine wpList_look_yes rfl _ _ rfl rfl HM.out nd.name rfl hnm 0 HZ.out ?_)
        go_quiet (fail)
        have HB : Hid (Below w.heap.size w (wr.alloc (.cells #[.string nd.name, .slice na nd.needs.length nc] 32))) := HR.out.1.alloc HR.out.1.size _
        go_wp2_with fail
        go_ret3
        exact ⟨HB.out.trans ⟨rfl, rfl, rfl, Nat.le_refl _, fun _ _ => rfl⟩, Or.inl ⟨nd.name, HE.out, hz, rfl⟩⟩
      · have HZ : Hid (zeros ns nd.name = none) := by show zeros ns nd.name = none; simp [zeros, hin]
        have HN2 : Hid (ns ++ [nd.name] = (l.take (j + 1)).map Nd.name ∧ (ns ++ [nd.name]).Nodup ∧ dup [] (l.map Nd.name) = dup (ns ++ [nd.name]) ((l.drop (j + 1)).map Nd.name)) := by
          refine ⟨?_, ?_, ?_⟩
          · rw [take_put HX.out, List.map_append, ← HN.out.1]
            rfl
          · rw [List.nodup_append]
            refine ⟨HN.out.2.1, by simp, ?_⟩
            intro x hx y hy e
            simp at hy
            subst hy e
            exact hin hx
          · rw [HN.out.2.2, HD.out, dup_put, if_neg hin]
        clear hin
        go_wp2_with (first | (at_lookup; refine wpList_look_no rfl _ _ rfl rfl HM.out nd.name rfl hnm HZ.out ?_) | (at_mapUpdate; refine wpList_mark rfl _ _ _ rfl rfl HM.out hjm nd.name rfl hnm 0 rfl (by omega) ?_))
        intro w1 hm1 hg1
        have H1 : Hid (Below w.heap.size w w1 ∧ MapIs w.heap.size (j + 1) (zeros (ns ++ [nd.name])) w1 ∧ RowS (w.heap.size + 1) u6 ns w1) :=
          ⟨Below.grown (HR.out.1.alloc HR.out.1.size _) hg1 (by have := HR.out.1.size; simp; omega) (fun k hk => by cases hk; exact Nat.le_refl _), hm1.congr (zeros_snoc _ _), (HR.out.2.2.below ((Below.refl _ _).alloc (Nat.le_refl _) _)).kept fun k hk => hg1.block k (by have := (HR.out.2.2.lt hk).2; simp; omega) (fun e => by
            cases e
            have := (HR.out.2.2.lt hk).1
            omega)⟩
        have hs1 : wr.heap.size < w1.heap.size := by have := hg1.size; simp at this; omega
        have hws := HR.out.1.size
        have q1 : w1.cell? ⟨wr.heap.size, 0, none⟩ = some (.string nd.name) := hg1.cell (a := ⟨wr.heap.size, 0, none⟩) (by simp [go_sem]) (by have := HR.out.2.1.lt; simp; omega)
        clear hm1 hg1 k1 k2
        go_wp2_with (at_builtin; refine wpList_pushS nd.name _ rfl _ _ rfl (w.heap.size + 1) u6 ns rfl H1.out.2.2 rfl (by simp) (by have := H1.out.2.1.lt; omega) (by omega) ?_)
        intro g' cap' w3 hr3 hg3
        have H3 : Hid (Below w.heap.size w w3 ∧ MapIs w.heap.size (j + 1) (zeros (ns ++ [nd.name])) w3 ∧ RowS (w.heap.size + 1) (.slice (some ⟨g', 0, none⟩) (ns.length + 1) cap') (ns ++ [nd.name]) w3) :=
          ⟨Below.grown H1.out.1 hg3 H1.out.1.size (fun k hk => by have := (H1.out.2.2.lt hk).1; omega), H1.out.2.1.kept (hg3.block _ H1.out.2.1.lt (fun e => by have := (H1.out.2.2.lt e.symm).1; omega)), hr3⟩
        clear hr3 hg3
        go_wp2_with fail
        go_roundw
        case rel => exact ⟨j + 1, _, by omega, by go_num, HN2.out, H3.out⟩
        case measure => simp [intOf]; omega
    · obtain rfl : j = l.length := by omega
      have hns : ns = l.map Nd.name := by rw [HN.out.1, List.take_length]
      have hsz : ∀ s ∈ ns, s.size ≤ maxLen := fun s hs => by
        rw [hns] at hs
        obtain ⟨nd, hnd, rfl⟩ := List.mem_map.1 hs
        have := (HS.out.1.2.1 nd hnd).1
        unfold maxLen
        omega
      have SO : Hid (Calls Try.prog 21 #[u6] wr fun e w' => e = .returned (.tuple #[]) ∧ Below (w.heap.size + 1) wr w' ∧ ∃ a cap S, u6 = .slice a ns.length cap ∧ S.Perm ns ∧ (S.Pairwise fun x y => ltB y x = false) ∧ Strs w'.heap.size w' a S) :=
        sortS_any _ u6 ns wr HR.out.2.2 (by omega) hsz
      have HNS : Hid (ns = l.map Nd.name) := hns
      clear hns hsz
      go_wp2_with fail
      refine SO.out.mono ?_
      rintro e w2 ⟨rfl, hb2, ra, rc, S, hu, hperm, hpw, hst⟩
      have hSl : S.length = l.length := by rw [hperm.length_eq]; exact HNL.out
      have HRK : Hid (Ranks l S) := by
        have hnd := HN.out.2.1
        rw [HNS.out] at hperm hnd
        have he := srt_unique (fun s : ByteArray => s) (l := l.map Nd.name) (a := S) (by rw [List.map_id']; exact hnd) hperm hpw
        refine ⟨?_, hperm⟩
        rw [he]
        exact srt_asc _ (by rw [List.map_id']; exact hnd)
      have H2 : Hid (Below w.heap.size w w2 ∧ MapIs w.heap.size l.length (zeros (l.map Nd.name)) w2 ∧ Strs w2.heap.size w2 ra S) := ⟨HR.out.1.trans (hb2.mono (by omega)), HNS.out ▸ HR.out.2.1.grown hb2 (by omega), hst⟩
      rw [HNL.out] at hu
      subst hu
      clear hb2 hperm hpw hst SO
      go_wp2_with fail
      go_loopw [43] (fun i wr => ∃ (j : Nat), j ≤ l.length ∧ i = .int .i64 j ∧ Hid (Below w.heap.size w wr ∧ (∀ k, k < w2.heap.size → k ≠ w.heap.size → wr.heap[k]? = w2.heap[k]?) ∧ w2.heap.size ≤ wr.heap.size ∧ MapIs w.heap.size (l.length + j) (partly S (l.map Nd.name) j) wr)) (fun i _ => l.length - (intOf i).toNat)
      case atStart => exact ⟨0, Nat.zero_le _, rfl, H2.out.1, fun _ _ _ => rfl, Nat.le_refl _, H2.out.2.1.congr (fun t => by simp [partly, plc_nil])⟩
      case round =>
        obtain ⟨j, hj, rfl, HQ⟩ := hrel
        by_cases hlt : j < l.length
        · obtain ⟨b, o, s, rfl, hbB, hs, hc, hz⟩ := H2.out.2.2.at (j := j) (by omega)
          have hbs : b ≠ w.heap.size := fun e => by
            subst e
            rw [H2.out.2.1.no_cell] at hc
            cases hc
          have hc' := (World.cell?_of_block (a := ⟨b, o + j, none⟩) (HQ.out.2.1 b hbB hbs)).trans hc
          have HX : Hid (S[j]? = some s) := hs
          have hjm : l.length + j < maxLen := by unfold maxLen; omega
          clear hs hc
          go_wp2_with (at_mapUpdate; refine wpList_mark rfl _ _ _ rfl rfl HQ.out.2.2.2 hjm s rfl hz j rfl (by omega) ?_)
          intro w1 hm1 hg1
          have H3 : Hid (Below w.heap.size w w1 ∧ (∀ k, k < w2.heap.size → k ≠ w.heap.size → w1.heap[k]? = w2.heap[k]?) ∧ w2.heap.size ≤ w1.heap.size ∧ MapIs w.heap.size (l.length + j + 1) (partly S (l.map Nd.name) (j + 1)) w1) := by
            refine ⟨Below.grown HQ.out.1 hg1 HQ.out.1.size (fun k hk => by cases hk; exact Nat.le_refl _), fun k hk hne => ?_, Nat.le_trans HQ.out.2.2.1 hg1.size, hm1.congr (partly_step HRK.out.nodup HX.out)⟩
            exact (hg1.block k (Nat.lt_of_lt_of_le hk HQ.out.2.2.1) (fun e => by cases e; exact hne rfl)).trans (HQ.out.2.1 k hk hne)
          clear hm1 hg1
          go_wp2_with fail
          go_roundw
          case rel => exact ⟨j + 1, by omega, by go_num, H3.out⟩
          case measure => simp [intOf]; omega
        · obtain rfl : j = l.length := by omega
          have H3 : Hid (MapIs w.heap.size 2097152 (plc S) wr) := (HQ.out.2.2.2.mono (by omega)).congr (fun t => by rw [← hSl]; exact (partly_all HRK.out.perm t).symm)
          go_wp2_with fail
          go_ret3
          exact ⟨HQ.out.1, Or.inr ⟨S, HRK.out, rfl, H3.out⟩⟩
end Go.Proofs.Ytilcongilokppad
