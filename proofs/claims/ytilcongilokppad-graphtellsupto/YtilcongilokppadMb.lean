/- Package graph: weave. -/
import Derived.Test.YtilcongilokppadMa
import Derived.Deep.RegionLaw
import Derived.Deep.AppendLies
namespace Go.Proofs.Ytilcongilokppad
set_option linter.unusedVariables false
set_option linter.unusedSimpArgs false
open Go.RowKit Go.Maps Go.WideMaps

section
variable {B n : Nat} {bb : Bool → Nat} {vs : Bool → List Value} {R : Bool → List (List Nat)} {w w' : World}
theorem grown_of {o : Obj} {r : Option Nat} (hg : (w.drew.alloc o).grownBy w' r) : w.grownBy w' r :=
  ⟨hg.os, hg.tape, hg.output, by have := hg.size; simp at this; omega, fun k hk hne => (hg.block k (by simp; omega) hne).trans (Below.heap_alloc w.drew o k hk)⟩
theorem blk_after (H : WS B bb n vs R w) {s : Bool} {i : Nat} {v : Value} (hi : (vs s)[i]? = some v) {o : Obj} (hg : (w.drew.alloc o).grownBy w' v.ownBlock) : w'.heap[bb s]? = w.heap[bb s]? :=
  (grown_of hg).block _ (H.small s) fun e => by
    have h1 := ((H.rows s i v hi).lt e.symm).1
    have h2 := H.lt s
    omega
theorem box_kept (H : WS B bb n vs R w) {s : Bool} {i : Nat} {v : Value} (hi : (vs s)[i]? = some v) {o : Obj} (hg : (w.drew.alloc o).grownBy w' v.ownBlock) {k : Nat} {c : Array Value} (hk : w.heap[k]? = some (.cells c 40 (0, 0))) : w'.heap[k]? = w.heap[k]? := by
  have hlt := (Array.getElem?_eq_some_iff.1 hk).1
  refine (grown_of hg).block k hlt fun e => ?_
  rcases (H.rows s i v hi).2 with ⟨q, _⟩ | ⟨g, cap, cur, q, _, hgc, _⟩
  · subst q
    simp [Value.ownBlock] at e
  · subst q
    simp [Value.ownBlock] at e
    rw [← e, hk] at hgc
    simp at hgc
theorem box_after (H : WS B bb n vs R w) {s : Bool} {i : Nat} {v : Value} (hi : (vs s)[i]? = some v) {o : Obj} (hg : (w.drew.alloc o).grownBy w' v.ownBlock) {k : Nat} {c : Array Value} (hk : w.heap[k]? = some (.cells c 40 (0, 0))) (u : Value) : (w'.setCell ⟨bb s, i, none⟩ u).heap[k]? = some (.cells c 40 (0, 0)) := by
  have hlt := (Array.getElem?_eq_some_iff.1 hk).1
  have e1 : k ≠ bb s := fun e => by
    have := H.blk s
    rw [← e, hk] at this
    simp at this
  have e2 : some k ≠ v.ownBlock := fun e => by
    rcases (H.rows s i v hi).2 with ⟨q, _⟩ | ⟨g, cap, cur, q, _, hgc, _⟩
    · subst q
      simp [Value.ownBlock] at e
    · subst q
      simp [Value.ownBlock] at e
      rw [← e, hk] at hgc
      simp at hgc
  exact (Below.heap_setCell _ _ _ _ e1).trans (((grown_of hg).block k hlt e2).trans hk)
/-- What weave touches. -/
def WT (B : Nat) (bb : Bool → Nat) (k : Nat) : Prop := (∃ s, k = bb s) ∨ B ≤ k
theorem Tc.pushed {w0 : World} (h : Tc (WT B bb) w0 w) (H : WS B bb n vs R w) {s : Bool} {i : Nat} {v : Value} (hi : (vs s)[i]? = some v) {o : Obj} (hg : (w.drew.alloc o).grownBy w' v.ownBlock) (u : Value) : Tc (WT B bb) w0 (w'.setCell ⟨bb s, i, none⟩ u) := by
  have hg' := grown_of hg
  refine ⟨hg'.os.trans h.os, hg'.tape.trans h.tape, hg'.output.trans h.output, by simpa using Nat.le_trans h.size hg'.size, fun k hk hS => ?_⟩
  have e1 : k ≠ bb s := fun e => hS (Or.inl ⟨s, e⟩)
  exact (Below.heap_setCell _ _ _ _ e1).trans ((hg'.block k (Nat.lt_of_lt_of_le hk h.size) fun e => hS (Or.inr ((H.rows s i v hi).lt e.symm).1)).trans (h.block k hk hS))
end
theorem row_add_le {R : List (List Nat)} {a b c : Nat} (ha : a < R.length) (h : ∀ k, (row R k).length ≤ c) : ∀ k, (row (add R a b) k).length ≤ c + 1 := by
  intro k
  rw [row_add ha]
  split
  · have := h a
    simp
    omega
  · have := h k
    omega

set_option maxRecDepth 100000 in
set_option maxHeartbeats 6400000 in
theorem weave_any (Bs B n mb mn i c : Nat) (bb : Bool → Nat) (vs0 : Bool → List Value) (R0 : Bool → List (List Nat)) (S needs : List ByteArray) (na da : Option Addr) (nc dc : Nat) (w : World)
    (H : WS B bb n vs0 R0 w) (hm : MapIs mb mn (plc S) w) (hmB : mb < B) (hmb : ∀ s, mb ≠ bb s) (hst : Strs Bs w da needs) (hBs : Bs ≤ B ∧ ∀ s, Bs ≤ bb s) (hB : B ≤ w.heap.size) (hS : S.length = n) (hi : i < n) (hn : n ≤ 1048576)
    (hc : ∀ s k, (row (R0 s) k).length ≤ c) (hcn : c + needs.length ≤ 1048576) :
    Calls Try.prog 23 #[.agg #[.slice na n nc, .slice (some ⟨bb true, 0, none⟩) n n, .slice (some ⟨bb false, 0, none⟩) n n], .int .i64 i, .slice da needs.length dc, .map (some mb)] w fun e w' =>
      ∃ (t : Nat) (ok : Bool) (vs : Bool → List Value) (R : Bool → List (List Nat)), e = .returned (.bool ok) ∧ WS B bb n vs R w' ∧ (R true, R false) = adds i ((needs.take t).filterMap (plc S)) (R0 true, R0 false) ∧ (∀ s k, (row (R s) k).length ≤ c + needs.length) ∧
        ((ok = true ∧ t = needs.length ∧ ∀ s ∈ needs, plc S s ≠ none) ∨ (ok = false ∧ ∃ s ∈ needs, plc S s = none)) ∧ Tc (WT B bb) w w' := by
  obtain ⟨i0, hinf, hz0, hz1, hz2⟩ := info_parts infoInt
  have HH : Hid (WS B bb n vs0 R0 w ∧ MapIs mb mn (plc S) w ∧ mb < B ∧ (∀ s, mb ≠ bb s) ∧ Strs Bs w da needs ∧ (Bs ≤ B ∧ ∀ s, Bs ≤ bb s) ∧ B ≤ w.heap.size ∧ S.length = n ∧ ∀ s k, (row (R0 s) k).length ≤ c) := ⟨H, hm, hmB, hmb, hst, hBs, hB, hS, hc⟩
  clear H hm hmB hmb hst hBs hB hS hc
  go_enter Try.func23, Try.ntmps23
  go_wp2_with fail
  go_loopw [15] (fun iv wr => ∃ (t : Nat) (vs : Bool → List Value) (R : Bool → List (List Nat)), t ≤ needs.length ∧ iv = .int .i64 t ∧ Hid (∀ s ∈ needs.take t, plc S s ≠ none) ∧
      Hid (WS B bb n vs R wr ∧ (R true, R false) = adds i ((needs.take t).filterMap (plc S)) (R0 true, R0 false) ∧ (∀ s k, (row (R s) k).length ≤ c + t) ∧ wr.heap[w.heap.size]? = some (.cells #[.slice na n nc, .slice (some ⟨bb true, 0, none⟩) n n, .slice (some ⟨bb false, 0, none⟩) n n] 40 (0, 0)) ∧ Tc (WT B bb) w wr)) (fun iv _ => needs.length - (intOf iv).toNat)
  case atStart => exact ⟨0, vs0, R0, Nat.zero_le _, rfl, by show ∀ s ∈ _, _; simp, HH.out.1.below ((Below.refl _ _).alloc (Nat.le_refl _) _), by simp [adds], HH.out.2.2.2.2.2.2.2.2, heap_alloc_new w _, Tc.of_below ((Below.refl _ _).alloc (Nat.le_refl _) _)⟩
  case round =>
    obtain ⟨t, vs, R, htn, rfl, HA, HR⟩ := hrel
    have hRt := HR.out.1.rl true
    have hRf := HR.out.1.rl false
    by_cases hlt : t < needs.length
    · obtain ⟨b, o, s, rfl, hbB, hs, hcs, hsz⟩ := HH.out.2.2.2.2.1.at hlt
      have hcs2 := (World.cell?_of_block (a := ⟨b, o + t, none⟩) (HR.out.2.2.2.2.block b (by have := HH.out.2.2.2.2.2.1.1; have := HH.out.2.2.2.2.2.2.1; omega) (fun q => by
        rcases q with ⟨s', q⟩ | q
        · have := HH.out.2.2.2.2.2.1.2 s'
          omega
        · have := HH.out.2.2.2.2.2.1.1
          omega))).trans hcs
      have HM : Hid (MapIs mb mn (plc S) wr) := HH.out.2.1.kept (HR.out.2.2.2.2.block mb HH.out.2.1.lt (fun q => by
        rcases q with ⟨s', q⟩ | q
        · exact HH.out.2.2.2.1 s' q
        · have := HH.out.2.2.1
          omega))
      have HX : Hid (needs[t]? = some s) := hs
      clear hs hcs
      have hbx1 : wr.cell? ⟨w.heap.size, 1, none⟩ = some (.slice (some ⟨bb true, 0, none⟩) n n) := by simp [World.cell?, HR.out.2.2.2.1]
      cases hp : plc S s with
      | none =>
        have HP : Hid (plc S s = none) := hp
        clear hp
        go_wp2_with (at_lookup; refine wpList_look_no rfl _ _ rfl rfl HM.out s rfl hsz HP.out ?_)
        go_ret
        exact ⟨t, false, vs, R, rfl, HR.out.1, HR.out.2.1, fun s k => Nat.le_trans (HR.out.2.2.1 s k) (by omega), Or.inr ⟨rfl, s, List.mem_of_getElem? HX.out, HP.out⟩, HR.out.2.2.2.2⟩
      | some k =>
        have hk : k < n := HH.out.2.2.2.2.2.2.2.1 ▸ (plc_some hp).1
        have HP : Hid (plc S s = some k) := hp
        clear hp
        obtain ⟨v1, hv1, Ac, hr1⟩ := HR.out.1.at true hi
        have AW : Hid (WS B bb n vs R wr) := HR.out.1
        have AR : Hid ((vs true)[i]? = some v1 ∧ RowI B v1 (row (R true) i) wr) := ⟨hv1, hr1⟩
        have AB : Hid (wr.heap[w.heap.size]? = some (.cells #[.slice na n nc, .slice (some ⟨bb true, 0, none⟩) n n, .slice (some ⟨bb false, 0, none⟩) n n] 40 (0, 0))) := HR.out.2.2.2.1
        have hle1 := HR.out.2.2.1 true i
        have hBr : B ≤ wr.heap.size := Nat.le_trans HH.out.2.2.2.2.2.2.1 HR.out.2.2.2.2.size
        have a0 := fun (u : World) (x : Value) (k : Nat) (j : Nat) (h : k < u.heap.size) => World.cell?_of_block (w := u) (w' := u.alloc (.cells #[x] 3)) (a := ⟨k, j, none⟩) (Below.heap_alloc u _ k h)
        have Ac2 : (wr.alloc (.cells #[.int .i64 (k : Int)] 3)).cell? ⟨bb true, i, none⟩ = some v1 := (a0 wr _ _ _ (HR.out.1.small true)).trans Ac
        have hbx1b : (wr.alloc (.cells #[.int .i64 (k : Int)] 3)).cell? ⟨w.heap.size, 1, none⟩ = some (.slice (some ⟨bb true, 0, none⟩) n n) := (a0 wr _ _ _ (Array.getElem?_eq_some_iff.1 HR.out.2.2.2.1).1).trans hbx1
        clear hv1 hr1
        go_wp2_with (at_lookup; refine wpList_look_yes rfl _ _ rfl rfl HM.out s rfl hsz k HP.out ?_)
        rename_i K hK
        have KEY : ∀ (p27 p28 p29 p30 p31 p32 p33 p34 p35 p36 p37 p38 : Value) (vs5 : Bool → List Value) (w5 : World), Hid (WS B bb n vs5 (updR R true i k) w5 ∧ w5.heap[w.heap.size]? = some (.cells #[.slice na n nc, .slice (some ⟨bb true, 0, none⟩) n n, .slice (some ⟨bb false, 0, none⟩) n n] 40 (0, 0)) ∧ Tc (WT B bb) w w5) → K { tmps := #[.agg #[.slice na n nc, .slice (some ⟨bb true, 0, none⟩) n n, .slice (some ⟨bb false, 0, none⟩) n n], .int .i64 i, .slice (some ⟨b, o, none⟩) needs.length dc, .map (some mb), .pointer (some ⟨w.heap.size, 0, none⟩), undef, undef, undef, u8, undef, .string s, .int .i64 (k : Int), .bool true, .slice (some ⟨b, o, none⟩) needs.length dc, .int .i64 (needs.length : Int), .int .i64 (t : Int), .bool true, .pointer (some ⟨b, o + t, none⟩), .string s, .tuple #[.int .i64 (k : Int), .bool true], .map (some mb), .string s, .tuple #[.int .i64 (k : Int), .bool true], .int .i64 (k : Int), .bool true, .bool true, .bool false, p27, p28, p29, p30, p31, p32, p33, p34, p35, p36, p37, p38, u39, u40, u41, u42, u43, u44, u45, u46, u47, u48, u49, u50, u51], defers := [] } w5 := by
          intro p27 p28 p29 p30 p31 p32 p33 p34 p35 p36 p37 p38 vs5 w5 H5
          apply hK
          clear hK Ac hbx1 Ac2 hbx1b AW AR AB hcs2
          obtain ⟨R5, HR5⟩ : ∃ R5, Hid (R5 = updR R true i k) := ⟨_, rfl⟩
          rw [← HR5.out] at H5
          obtain ⟨v2, hv2, Cc, hr2⟩ := H5.out.1.at false hk
          have CW : Hid (WS B bb n vs5 R5 w5) := H5.out.1
          have CR : Hid ((vs5 false)[k]? = some v2 ∧ RowI B v2 (row (R5 false) k) w5) := ⟨hv2, hr2⟩
          have CB : Hid (w5.heap[w.heap.size]? = some (.cells #[.slice na n nc, .slice (some ⟨bb true, 0, none⟩) n n, .slice (some ⟨bb false, 0, none⟩) n n] 40 (0, 0))) := H5.out.2.1
          have hR5f : R5 false = R false := by rw [HR5.out]; simp [updR]
          have hle2 : (row (R5 false) k).length ≤ c + t := by rw [hR5f]; exact HR.out.2.2.1 false k
          have hbx2 : w5.cell? ⟨w.heap.size, 2, none⟩ = some (.slice (some ⟨bb false, 0, none⟩) n n) := by simp [World.cell?, H5.out.2.1]
          have hBr5 : B ≤ w5.heap.size := Nat.le_trans HH.out.2.2.2.2.2.2.1 H5.out.2.2.size
          have Cc2 : (w5.alloc (.cells #[.int .i64 (i : Int)] 3)).cell? ⟨bb false, k, none⟩ = some v2 := (a0 w5 _ _ _ (H5.out.1.small false)).trans Cc
          have hbx2b : (w5.alloc (.cells #[.int .i64 (i : Int)] 3)).cell? ⟨w.heap.size, 2, none⟩ = some (.slice (some ⟨bb false, 0, none⟩) n n) := (a0 w5 _ _ _ (Array.getElem?_eq_some_iff.1 H5.out.2.1).1).trans hbx2
          clear hv2 hr2 hR5f
          go_wp2_with fail
          rename_i K2 hK2
          have H8 : Hid (((updR R5 false k i) true, (updR R5 false k i) false) = adds i ((needs.take (t + 1)).filterMap (plc S)) (R0 true, R0 false) ∧ (∀ s j, (row (updR R5 false k i s) j).length ≤ c + (t + 1)) ∧ ∀ x ∈ needs.take (t + 1), plc S x ≠ none) := by
            have e1 : updR R5 false k i true = add (R true) i k := by rw [HR5.out]; simp [updR]
            have e2 : updR R5 false k i false = add (R false) k i := by rw [HR5.out]; simp [updR]
            have e3 : (needs.take (t + 1)).filterMap (plc S) = (needs.take t).filterMap (plc S) ++ [k] := by
              rw [take_put HX.out, List.filterMap_append, List.filterMap_cons_some HP.out]
              rfl
            have h4 := HR.out.2.1
            simp only [Prod.ext_iff] at h4
            refine ⟨?_, fun s => ?_, fun x hx => ?_⟩
            · rw [e1, e2, e3, adds_snoc, ← h4.1, ← h4.2]
            · cases s with
              | true => rw [e1]; exact row_add_le (by omega) (HR.out.2.2.1 true)
              | false => rw [e2]; exact row_add_le (by omega) (HR.out.2.2.1 false)
            · rw [take_put HX.out] at hx
              rcases List.mem_append.1 hx with q | q
              · exact HA.out x q
              · simp at q
                subst q
                rw [HP.out]
                simp
          have KEY2 : ∀ (p39 p40 p41 p42 p43 p44 p45 p46 p47 p48 p49 p50 : Value) (vs7 : Bool → List Value) (w7 : World), Hid (WS B bb n vs7 (updR R5 false k i) w7 ∧ w7.heap[w.heap.size]? = some (.cells #[.slice na n nc, .slice (some ⟨bb true, 0, none⟩) n n, .slice (some ⟨bb false, 0, none⟩) n n] 40 (0, 0)) ∧ Tc (WT B bb) w w7) → K2 { tmps := #[.agg #[.slice na n nc, .slice (some ⟨bb true, 0, none⟩) n n, .slice (some ⟨bb false, 0, none⟩) n n], .int .i64 i, .slice (some ⟨b, o, none⟩) needs.length dc, .map (some mb), .pointer (some ⟨w.heap.size, 0, none⟩), undef, undef, undef, u8, undef, .string s, .int .i64 (k : Int), .bool true, .slice (some ⟨b, o, none⟩) needs.length dc, .int .i64 (needs.length : Int), .int .i64 (t : Int), .bool true, .pointer (some ⟨b, o + t, none⟩), .string s, .tuple #[.int .i64 (k : Int), .bool true], .map (some mb), .string s, .tuple #[.int .i64 (k : Int), .bool true], .int .i64 (k : Int), .bool true, .bool true, .bool false, p27, p28, p29, p30, p31, p32, p33, p34, p35, p36, p37, p38, p39, p40, p41, p42, p43, p44, p45, p46, p47, p48, p49, p50, u51], defers := [] } w7 := by
            intro p39 p40 p41 p42 p43 p44 p45 p46 p47 p48 p49 p50 vs7 w7 H7
            apply hK2
            clear hK2 Cc hbx2 Cc2 hbx2b CW CR CB
            go_wp2_with fail
            go_roundw
            case rel => exact ⟨t + 1, _, _, by omega, by go_num, H8.out.2.2, H7.out.1, H8.out.1, H8.out.2.1, H7.out.2.1, H7.out.2.2⟩
            case measure => simp [intOf]; omega
          go_region_law (first
            | (refine step_append_lies _ rfl (.tmp 46) (.tmp 48) 43 rfl B 3 i0 _ 1 8 Try.underlying43 hinf hz0 hz1 hz2 rfl (by decide) v2 (row (R5 false) k).length ((row (R5 false) k).map encI) rfl (by exact World.ownsRow.alloc (w := w5.drew) CR.out.2 _) ⟨w5.heap.size, 0, none⟩ 1 1 [encI i] rfl rfl (by exact one_news w5.drew (encI i)) (by exact one_one i) (by decide) (by unfold maxLen; omega) (by omega) (by simp; omega) (w5.heap.size + 1) (by simp) ?_; intro gC capC wC hown hgrow hat hlt3; have k0 := blk_after CW.out CR.out.1 hgrow; have k1 : wC.cell? ⟨bb false, k, none⟩ = some v2 := (World.cell?_of_block (a := ⟨bb false, k, none⟩) k0).trans Cc; have k2 : wC.frozen? ⟨bb false, k, none⟩ = false := (World.frozen?_of_block (a := ⟨bb false, k, none⟩) k0).trans (CW.out.frozen false k); have k3 := (World.cell?_of_block (a := ⟨w.heap.size, 2, none⟩) (box_kept CW.out CR.out.1 hgrow CB.out)).trans hbx2; dsimp only))
          all_goals
            refine KEY2 _ _ _ _ _ _ _ _ _ _ _ _ _ _ ⟨H5.out.1.push CR.out.1 (by unfold RowI; simpa [encI] using hown) (grown_of hgrow) (fun g hg => ?_), box_after H5.out.1 CR.out.1 hgrow H5.out.2.1 _, H5.out.2.2.pushed H5.out.1 CR.out.1 hgrow _⟩
            simp [Value.ownBlock] at hg
            subst hg
            rcases hat with q | q
            · exact Or.inl q
            · exact Or.inr (by omega)
        go_region_law (first
          | (refine step_append_lies _ rfl (.tmp 34) (.tmp 36) 43 rfl B 3 i0 _ 1 8 Try.underlying43 hinf hz0 hz1 hz2 rfl (by decide) v1 (row (R true) i).length ((row (R true) i).map encI) rfl (by exact World.ownsRow.alloc (w := wr.drew) AR.out.2 _) ⟨wr.heap.size, 0, none⟩ 1 1 [encI k] rfl rfl (by exact one_news wr.drew (encI k)) (by exact one_one k) (by decide) (by unfold maxLen; omega) (by omega) (by simp; omega) (wr.heap.size + 1) (by simp) ?_; intro gA capA wA hown hgrow hat hlt3; have k0 := blk_after AW.out AR.out.1 hgrow; have k1 : wA.cell? ⟨bb true, i, none⟩ = some v1 := (World.cell?_of_block (a := ⟨bb true, i, none⟩) k0).trans Ac; have k2 : wA.frozen? ⟨bb true, i, none⟩ = false := (World.frozen?_of_block (a := ⟨bb true, i, none⟩) k0).trans (AW.out.frozen true i); have k3 := (World.cell?_of_block (a := ⟨w.heap.size, 1, none⟩) (box_kept AW.out AR.out.1 hgrow AB.out)).trans hbx1; dsimp only))
        all_goals
          refine KEY _ _ _ _ _ _ _ _ _ _ _ _ _ _ ⟨HR.out.1.push AR.out.1 (by unfold RowI; simpa [encI] using hown) (grown_of hgrow) (fun g hg => ?_), box_after HR.out.1 AR.out.1 hgrow HR.out.2.2.2.1 _, HR.out.2.2.2.2.pushed HR.out.1 AR.out.1 hgrow _⟩
          simp [Value.ownBlock] at hg
          subst hg
          rcases hat with q | q
          · exact Or.inl q
          · exact Or.inr (by omega)
    · obtain rfl : t = needs.length := by omega
      go_wp2_with fail
      go_ret
      refine ⟨needs.length, true, vs, R, rfl, HR.out.1, HR.out.2.1, HR.out.2.2.1, Or.inl ⟨rfl, rfl, ?_⟩, HR.out.2.2.2.2⟩
      have := HA.out
      rwa [List.take_length] at this
end Go.Proofs.Ytilcongilokppad
