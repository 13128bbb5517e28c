/- Package graph: woven. -/
import Derived.Test.YtilcongilokppadMb
namespace Go.Proofs.Ytilcongilokppad
set_option linter.unusedVariables false
set_option linter.unusedSimpArgs false
open Go.RowKit Go.Maps Go.WideMaps

theorem infoRow : (Try.prog.info? 43).map (fun i => (i.zero, i.size, i.bytes)) = some (some (.slice none 0 0), 1, 24) := by kernel_rfl
theorem make_strs (n : Nat) (hn : n ≤ 1048576) (w : World) : (Instr.makeSlice 23 (.int .i64 n) (.int .i64 n)).run Try.prog w = .ok (.slice (some ⟨w.heap.size, 0, none⟩) n n) (w.alloc (.cells (madeCells #[.string ⟨#[]⟩] n) 9)) :=
  make_one Try.underlying23 infoStr (by decide) rfl n hn w
theorem make_rows (n : Nat) (hn : n ≤ 1048576) (w : World) : (Instr.makeSlice 38 (.int .i64 n) (.int .i64 n)).run Try.prog w = .ok (.slice (some ⟨w.heap.size, 0, none⟩) n n) (w.alloc (.cells (madeCells #[.slice none 0 0] n) 43)) :=
  make_one Try.underlying38 infoRow (by decide) rfl n hn w

/-- How much all need. -/
def cost (l : List Nd) : Nat := (l.map fun nd => nd.needs.length).sum
theorem cost_take {l : List Nd} {j : Nat} {nd : Nd} (h : l[j]? = some nd) : cost (l.take (j + 1)) = cost (l.take j) + nd.needs.length := by
  unfold cost
  rw [take_put h]
  simp
theorem cost_le (l : List Nd) (j : Nat) : cost (l.take j) ≤ cost l := by
  conv => rhs; rw [← List.take_append_drop j l]
  unfold cost
  rw [List.map_append, List.sum_append]
  omega

theorem alloc5 (w : World) (o0 o1 o2 o3 o4 : Obj) : Below w.heap.size w (((((w.alloc o0).alloc o1).alloc o2).alloc o3).alloc o4).drew ∧ (((((w.alloc o0).alloc o1).alloc o2).alloc o3).alloc o4).drew.heap.size = w.heap.size + 1 + 1 + 1 + 1 + 1 ∧
    (((((w.alloc o0).alloc o1).alloc o2).alloc o3).alloc o4).drew.heap[w.heap.size]? = some o0 ∧ (((((w.alloc o0).alloc o1).alloc o2).alloc o3).alloc o4).drew.heap[w.heap.size + 1]? = some o1 ∧ (((((w.alloc o0).alloc o1).alloc o2).alloc o3).alloc o4).drew.heap[w.heap.size + 1 + 1]? = some o2 ∧
    (((((w.alloc o0).alloc o1).alloc o2).alloc o3).alloc o4).drew.heap[w.heap.size + 1 + 1 + 1]? = some o3 ∧ (((((w.alloc o0).alloc o1).alloc o2).alloc o3).alloc o4).drew.heap[w.heap.size + 1 + 1 + 1 + 1]? = some o4 := by
  have a0 := fun (u : World) (o : Obj) (k : Nat) (h : k < u.heap.size) => Below.heap_alloc u o k h
  have n0 := fun (u : World) (o : Obj) => heap_alloc_new u o
  refine ⟨(((((Below.refl _ _).alloc (Nat.le_refl _) _).alloc (by simp) _).alloc (by simp; omega) _).alloc (by simp; omega) _ |>.alloc (by simp; omega) _).drew, by simp [World.drew], ?_, ?_, ?_, ?_, ?_⟩
  · show (((((w.alloc o0).alloc o1).alloc o2).alloc o3).alloc o4).heap[w.heap.size]? = _
    rw [a0 _ _ _ (by simp; omega), a0 _ _ _ (by simp; omega), a0 _ _ _ (by simp; omega), a0 _ _ _ (by simp)]
    exact n0 _ _
  · show (((((w.alloc o0).alloc o1).alloc o2).alloc o3).alloc o4).heap[w.heap.size + 1]? = _
    rw [a0 _ _ _ (by simp <;> omega), a0 _ _ _ (by simp <;> omega), a0 _ _ _ (by simp)]
    simpa using n0 (w.alloc o0) o1
  · show (((((w.alloc o0).alloc o1).alloc o2).alloc o3).alloc o4).heap[w.heap.size + 1 + 1]? = _
    rw [a0 _ _ _ (by simp <;> omega), a0 _ _ _ (by simp)]
    simpa using n0 ((w.alloc o0).alloc o1) o2
  · show (((((w.alloc o0).alloc o1).alloc o2).alloc o3).alloc o4).heap[w.heap.size + 1 + 1 + 1]? = _
    rw [a0 _ _ _ (by simp)]
    simpa using n0 (((w.alloc o0).alloc o1).alloc o2) o3
  · show (((((w.alloc o0).alloc o1).alloc o2).alloc o3).alloc o4).heap[w.heap.size + 1 + 1 + 1 + 1]? = _
    simpa using n0 ((((w.alloc o0).alloc o1).alloc o2).alloc o3) o4

/-- What woven has laid. -/
structure Laid (w : World) (n nb bt bf wb : Nat) (w1 : World) : Prop where
  old : Below w.heap.size w w1
  size : w1.heap.size = w.heap.size + 1 + 1 + 1 + 1 + 1
  res : w1.heap[w.heap.size]? = some (.cells #[.slice none 0 0, .slice none 0 0, .slice none 0 0] 40 (0, 0))
  names : w1.heap[nb]? = some (.cells (madeCells #[.string ⟨#[]⟩] n) 9 (0, 0))
  needs : w1.heap[bt]? = some (.cells (madeCells #[.slice none 0 0] n) 43 (0, 0))
  users : w1.heap[bf]? = some (.cells (madeCells #[.slice none 0 0] n) 43 (0, 0))
  web : w1.heap[wb]? = some (.cells #[.slice (some ⟨nb, 0, none⟩) n n, .slice (some ⟨bt, 0, none⟩) n n, .slice (some ⟨bf, 0, none⟩) n n] 40 (0, 0))
  lt : (w.heap.size < nb ∧ nb < w.heap.size + 5) ∧ (w.heap.size < bt ∧ bt < w.heap.size + 5) ∧ (w.heap.size < bf ∧ bf < w.heap.size + 5) ∧ (w.heap.size < wb ∧ wb < w.heap.size + 5) ∧ bt ≠ bf

/-- What woven keeps: the names by their numbers, who needs whom, the web. -/
structure VS (w : World) (n nb wb : Nat) (bb : Bool → Nat) (vs : Bool → List Value) (R : Bool → List (List Nat)) (nm : List ByteArray) (wr : World) : Prop where
  old : Below w.heap.size w wr
  ws : WS (w.heap.size + 5) bb n vs R wr
  names : wr.heap[nb]? = some (.cells (nm.map Value.string).toArray 9 (0, 0))
  nl : nm.length = n
  res : wr.heap[w.heap.size]? = some (.cells #[.slice none 0 0, .slice none 0 0, .slice none 0 0] 40 (0, 0))
  web : wr.heap[wb]? = some (.cells #[.slice (some ⟨nb, 0, none⟩) n n, .slice (some ⟨bb true, 0, none⟩) n n, .slice (some ⟨bb false, 0, none⟩) n n] 40 (0, 0))
  lt : (w.heap.size < nb ∧ nb < w.heap.size + 5) ∧ (∀ s, w.heap.size < bb s) ∧ (w.heap.size < wb ∧ wb < w.heap.size + 5)
  big : w.heap.size + 5 ≤ wr.heap.size

section
variable {w wr w' : World} {n nb wb : Nat} {bb : Bool → Nat} {vs vs' : Bool → List Value} {R R' : Bool → List (List Nat)} {nm : List ByteArray}
def two (bt bf : Nat) : Bool → Nat := fun s => if s = true then bt else bf
theorem VS.start {bt bf : Nat} {w1 : World} (H : Laid w n nb bt bf wb w1) : VS w n nb wb (two bt bf) (fun _ => List.replicate n (.slice none 0 0)) (fun _ => List.replicate n []) (List.replicate n ByteArray.empty) w1 := by
  have hlt := H.lt
  refine ⟨H.old, ⟨fun s => ?_, by simp, by simp, fun s i v hv => ?_, fun s i s' i' v v' hv hv' _ g hg => ?_, fun s => ?_, hlt.2.2.2.2⟩, ?_, by simp, H.res, H.web, ⟨hlt.1, fun s => ?_, hlt.2.2.2.1⟩, by rw [H.size]; omega⟩
  · have e : madeCells #[.slice none 0 0] n = (List.replicate n (Value.slice none 0 0)).toArray := by
      apply Array.ext'
      rw [made_one]
    cases s with
    | true => exact H.needs.trans (by rw [e])
    | false => exact H.users.trans (by rw [e])
  · have hv' : v = .slice none 0 0 := by
      have := List.mem_of_getElem? hv
      simp at this
      exact this.2
    subst hv'
    rw [row_start]
    exact RowI.nil _ _
  · have : v = .slice none 0 0 := by
      have := List.mem_of_getElem? hv
      simp at this
      exact this.2
    subst this
    simp [Value.ownBlock] at hg
  · cases s
    · exact hlt.2.2.1.2
    · exact hlt.2.1.2
  · rw [H.names]
    congr 2
    apply Array.ext'
    rw [made_one]
    simp
    exact Or.inr rfl
  · cases s
    · exact hlt.2.2.1.1
    · exact hlt.2.1.1
theorem VS.size (H : VS w n nb wb bb vs R nm wr) : w.heap.size < wr.heap.size := (Array.getElem?_eq_some_iff.1 H.res).1
theorem VS.ne (H : VS w n nb wb bb vs R nm wr) : nb ≠ wb ∧ ∀ s, nb ≠ bb s ∧ wb ≠ bb s := by
  refine ⟨fun e => ?_, fun s => ⟨fun e => ?_, fun e => ?_⟩⟩
  · have := H.names
    rw [e, H.web] at this
    simp at this
  · have := H.names
    rw [e, H.ws.blk s] at this
    simp at this
  · have := H.web
    rw [e, H.ws.blk s] at this
    simp at this
theorem VS.below (H : VS w n nb wb bb vs R nm wr) (hb : Below wr.heap.size wr w') : VS w n nb wb bb vs R nm w' :=
  ⟨H.old.trans (hb.mono H.old.size), H.ws.below hb, (hb.block _ (Array.getElem?_eq_some_iff.1 H.names).1).trans H.names, H.nl, (hb.block _ H.size).trans H.res, (hb.block _ (Array.getElem?_eq_some_iff.1 H.web).1).trans H.web, H.lt, Nat.le_trans H.big hb.size⟩
theorem VS.name (H : VS w n nb wb bb vs R nm wr) {i : Nat} (hi : i < n) (s : ByteArray) : VS w n nb wb bb vs R (nm.set i s) (wr.setCell ⟨nb, i, none⟩ (.string s)) := by
  have hl := H.nl
  have hlt := H.lt
  have o : ∀ k, k ≠ nb → (wr.setCell ⟨nb, i, none⟩ (.string s)).heap[k]? = wr.heap[k]? := fun k hk => Below.heap_setCell _ _ _ _ hk
  refine ⟨H.old.setCell (p := ⟨nb, i, none⟩) (by show _ ≤ nb; omega) _, H.ws.kept fun k hk hS => o k ?_, ?_, by simpa using hl, (o _ (by omega)).trans H.res, (o _ (Ne.symm H.ne.1)).trans H.web, hlt, by simpa using H.big⟩
  · rcases hS with ⟨t, q⟩ | q
    · have := (H.ne.2 t).1
      omega
    · omega
  · rw [heap_setCell H.names (by simp; omega)]
    simp [List.map_set]
theorem VS.weave (H : VS w n nb wb bb vs R nm wr) (hw : WS (w.heap.size + 5) bb n vs' R' w') (ht : Tc (WT (w.heap.size + 5) bb) wr w') : VS w n nb wb bb vs' R' nm w' := by
  have hlt := H.lt
  have hs := H.size
  have k : ∀ j, j < wr.heap.size → j < w.heap.size + 5 → (∀ s, j ≠ bb s) → w'.heap[j]? = wr.heap[j]? := fun j h1 h2 h3 => ht.block j h1 fun q => by
    rcases q with ⟨s, q⟩ | q
    · exact h3 s q
    · omega
  refine ⟨H.old.trans (ht.below H.old.size fun j hj q => ?_), hw, (k _ (Array.getElem?_eq_some_iff.1 H.names).1 hlt.1.2 fun s => (H.ne.2 s).1).trans H.names, H.nl, (k _ hs (by omega) fun s => by have := hlt.2.1 s; omega).trans H.res, (k _ (Array.getElem?_eq_some_iff.1 H.web).1 hlt.2.2.2 fun s => (H.ne.2 s).2).trans H.web, hlt, Nat.le_trans H.big ht.size⟩
  rcases q with ⟨s, q⟩ | q
  · have := hlt.2.1 s
    omega
  · omega
theorem VS.ncell (H : VS w n nb wb bb vs R nm wr) {i : Nat} {s : ByteArray} (hi : nm[i]? = some s) : wr.cell? ⟨nb, i, none⟩ = some (.string s) := by
  simp [World.cell?, H.names, hi]
theorem VS.nfrozen (H : VS w n nb wb bb vs R nm wr) (i : Nat) : wr.frozen? ⟨nb, i, none⟩ = false := by simp [World.frozen?, H.names]
end

theorem set3 {w : World} {b : Nat} {a0 a1 a2 : Value} (h : w.heap[b]? = some (.cells #[a0, a1, a2] 40 (0, 0))) (x y z : Value) :
    (((w.setCell ⟨b, 0, none⟩ x).setCell ⟨b, 1, none⟩ y).setCell ⟨b, 2, none⟩ z).heap[b]? = some (.cells #[x, y, z] 40 (0, 0)) := by
  rw [heap_setCell (i := 2) (heap_setCell (i := 1) (heap_setCell (i := 0) h (by simp) x) (by simp) y) (by simp) z]
  rfl
theorem set3_ne {w : World} {b k : Nat} (hk : k ≠ b) (x y z : Value) : (((w.setCell ⟨b, 0, none⟩ x).setCell ⟨b, 1, none⟩ y).setCell ⟨b, 2, none⟩ z).heap[k]? = w.heap[k]? :=
  (Below.heap_setCell _ _ _ _ hk).trans ((Below.heap_setCell _ _ _ _ hk).trans (Below.heap_setCell _ _ _ _ hk))
theorem ret15 (tmps : Array Value) (b : Nat) (x y z : Value) (w : World) (h4 : tmps.getD 4 undef = .pointer (some ⟨b, 0, none⟩)) (h : w.heap[b]? = some (.cells #[x, y, z] 40 (0, 0))) :
    (results Try.f15 tmps).run Try.prog w = .ok (.tuple #[.agg #[x, y, z], tmps.getD 5 undef, tmps.getD 6 undef]) w := by
  have c0 : w.cell? ⟨b, 0, none⟩ = some x := by simp [World.cell?, h]
  have c1 : w.cell? ⟨b, 1, none⟩ = some y := by simp [World.cell?, h]
  have c2 : w.cell? ⟨b, 2, none⟩ = some z := by simp [World.cell?, h]
  rw [Array.getD_eq_getD_getElem?] at h4
  simp [results, Try.results15, h4, go_sem, c0, c1, c2]

set_option maxRecDepth 100000 in
set_option maxHeartbeats 6400000 in
theorem woven_any (B mb mn : Nat) (l : List Nd) (S : List ByteArray) (a : Option Addr) (c : Nat) (w : World) (h : Nds B w a l) (hr : Ranks l S) (hm : MapIs mb mn (plc S) w) (hB : B ≤ w.heap.size) (hc : cost l ≤ 1048576) :
    Calls Try.prog 15 #[.slice a l.length c, .map (some mb)] w fun e w' => Below w.heap.size w w' ∧
      ((∃ nd i, nd ∈ l ∧ plc S nd.name = some i ∧ Lacks S nd ∧ (∀ m ∈ l, ∀ k, plc S m.name = some k → Lacks S m → i ≤ k) ∧ e = .returned (.tuple #[.agg #[.slice none 0 0, .slice none 0 0, .slice none 0 0], .string nd.name, .int .i64 6])) ∨
       (∃ nb bt bf Nn Uu, e = .returned (.tuple #[.agg #[.slice (some ⟨nb, 0, none⟩) l.length l.length, .slice (some ⟨bt, 0, none⟩) l.length l.length, .slice (some ⟨bf, 0, none⟩) l.length l.length], .string ⟨#[]⟩, .int .i64 0]) ∧
          Two l.length Nn Uu ∧ (∀ nd ∈ l, ¬ Lacks S nd) ∧ IsN l S (row Nn) ∧ Mat w'.heap.size w' (some ⟨bt, 0, none⟩) Nn ∧ Mat w'.heap.size w' (some ⟨bf, 0, none⟩) Uu ∧ w'.heap[nb]? = some (.cells (S.map Value.string).toArray 9 (0, 0)))) := by
  have hl := h.1
  have hmk1 := make_strs l.length hl
  have hmk2 := make_rows l.length hl
  go_enter Try.func15, Try.ntmps15
  go_wp2_with fail
  rename_i K hK
  have KEY : ∀ (nb bt bf wb : Nat) (w1 : World), Laid w l.length nb bt bf wb w1 → K { tmps := #[.slice a l.length c, .map (some mb), undef, undef, .pointer (some ⟨w.heap.size, 0, none⟩), .string ⟨#[]⟩, .int .i64 0, .pointer (some ⟨wb, 0, none⟩), undef, undef, undef, undef, .slice a l.length c, .int .i64 (l.length : Int), .slice (some ⟨nb, 0, none⟩) l.length l.length, .slice a l.length c, .int .i64 (l.length : Int), .slice (some ⟨bt, 0, none⟩) l.length l.length, .slice a l.length c, .int .i64 (l.length : Int), .slice (some ⟨bf, 0, none⟩) l.length l.length, .agg #[.slice (some ⟨nb, 0, none⟩) l.length l.length, .slice (some ⟨bt, 0, none⟩) l.length l.length, .slice (some ⟨bf, 0, none⟩) l.length l.length], undef, undef, undef, undef, undef, undef, undef, undef, undef, undef, undef, undef, undef, undef, undef, undef, undef, undef, undef, undef, undef, undef, undef, undef, undef, undef, undef, undef, undef, undef, undef, undef, undef, undef, undef, undef, undef, undef, undef, undef], defers := [] } w1 := by
    intro nb bt bf wb w1 HL
    apply hK
    clear hK
    obtain ⟨bb, HBB⟩ : ∃ bb, Hid (bb = two bt bf) := ⟨_, rfl⟩
    have HV : Hid (VS w l.length nb wb bb (fun _ => List.replicate l.length (.slice none 0 0)) (fun _ => List.replicate l.length []) (List.replicate l.length ByteArray.empty) w1) := HBB.out ▸ VS.start HL
    clear HL
    have HH : Hid (Nds B w a l ∧ Ranks l S ∧ MapIs mb mn (plc S) w ∧ B ≤ w.heap.size) := ⟨h, hr, hm, hB⟩
    clear h hr hm hB hmk1 hmk2
    go_wp2_with fail
    go_loopw [8, 26] (fun lv iv wr => ∃ (j lost : Nat) (vs : Bool → List Value) (R : Bool → List (List Nat)) (nm : List ByteArray), j ≤ l.length ∧ lost ≤ l.length ∧ iv = .int .i64 j ∧ lv = .int .i64 lost ∧ Hid (Wov S l j (R true) (R false) nm lost ∧ (∀ s k, (row (R s) k).length ≤ cost (l.take j)) ∧ VS w l.length nb wb bb vs R nm wr)) (fun _ iv _ => l.length - (intOf iv).toNat)
    case atStart => exact ⟨0, l.length, _, _, _, Nat.zero_le _, Nat.le_refl _, rfl, rfl, Wov.start S l, fun s k => by rw [row_start]; simp, HV.out⟩
    case round =>
      clear HV
      obtain ⟨j, lost, vs, R, nm, hj, hlo, rfl, rfl, HR⟩ := hrel
      by_cases hlt : j < l.length
      · obtain ⟨b, o, nd, na, nc, rfl, hbB, hnd, hc1, hc2, hst, hz, hz2⟩ := HH.out.1.at hlt
        have k1 := (HR.out.2.2.old.cell (p := ⟨b, o + j * 2, none⟩) (Nat.lt_of_lt_of_le hbB HH.out.2.2.2)).trans hc1
        have k2 := (HR.out.2.2.old.cell (p := ⟨b, o + j * 2 + 1, none⟩) (Nat.lt_of_lt_of_le hbB HH.out.2.2.2)).trans hc2
        have HX : Hid (l[j]? = some nd) := hnd
        obtain ⟨i, hpi, hil⟩ := HH.out.2.1.rank (List.mem_of_getElem? hnd)
        have HP : Hid (plc S nd.name = some i) := hpi
        have HST : Hid (Strs B w na nd.needs) := hst
        have hnm : nd.name.size ≤ maxLen := by unfold maxLen; omega
        have V2 : Hid (VS w l.length nb wb bb vs R nm (wr.alloc (.cells #[.string nd.name, .slice na nd.needs.length nc] 32))) := HR.out.2.2.below ((Below.refl _ _).alloc (Nat.le_refl _) _)
        have HM : Hid (MapIs mb mn (plc S) (wr.alloc (.cells #[.string nd.name, .slice na nd.needs.length nc] 32))) := HH.out.2.2.1.kept (V2.out.old.block _ HH.out.2.2.1.lt)
        obtain ⟨s0, hs0⟩ : ∃ s0, nm[i]? = some s0 := ⟨nm[i]'(by rw [HR.out.2.2.nl]; exact hil), List.getElem?_eq_getElem _⟩
        have cn := V2.out.ncell hs0
        have fn := V2.out.nfrozen i
        have cw : ∀ q v, #[Value.slice (some ⟨nb, 0, none⟩) l.length l.length, .slice (some ⟨bb true, 0, none⟩) l.length l.length, .slice (some ⟨bb false, 0, none⟩) l.length l.length][q]? = some v → (wr.alloc (.cells #[.string nd.name, .slice na nd.needs.length nc] 32)).cell? ⟨wb, q, none⟩ = some v := fun q v hq => by
          simp [World.cell?, V2.out.web, hq]
        have cw0 := cw 0 _ rfl
        have V3 : Hid (VS w l.length nb wb bb vs R (nm.set i nd.name) ((wr.setCell ⟨nb, i, none⟩ (.string nd.name)).alloc (.cells #[.string nd.name, .slice na nd.needs.length nc] 32))) := (HR.out.2.2.name hil nd.name).below ((Below.refl _ _).alloc (Nat.le_refl _) _)
        have d0 : ((wr.setCell ⟨nb, i, none⟩ (.string nd.name)).alloc (.cells #[.string nd.name, .slice na nd.needs.length nc] 32)).cell? ⟨wb, 0, none⟩ = some (.slice (some ⟨nb, 0, none⟩) l.length l.length) := by simp only [World.cell?, V3.out.web]; rfl
        have d1 : ((wr.setCell ⟨nb, i, none⟩ (.string nd.name)).alloc (.cells #[.string nd.name, .slice na nd.needs.length nc] 32)).cell? ⟨wb, 1, none⟩ = some (.slice (some ⟨bb true, 0, none⟩) l.length l.length) := by simp only [World.cell?, V3.out.web]; rfl
        have d2 : ((wr.setCell ⟨nb, i, none⟩ (.string nd.name)).alloc (.cells #[.string nd.name, .slice na nd.needs.length nc] 32)).cell? ⟨wb, 2, none⟩ = some (.slice (some ⟨bb false, 0, none⟩) l.length l.length) := by simp only [World.cell?, V3.out.web]; rfl
        have d3 : ((wr.setCell ⟨nb, i, none⟩ (.string nd.name)).alloc (.cells #[.string nd.name, .slice na nd.needs.length nc] 32)).cell? ⟨wr.heap.size, 1, none⟩ = some (.slice na nd.needs.length nc) := by
          have e := heap_alloc_new (wr.setCell ⟨nb, i, none⟩ (.string nd.name)) (.cells #[.string nd.name, .slice na nd.needs.length nc] 32)
          simp only [World.size_setCell] at e
          simp only [World.cell?, e]
          rfl
        have e0 : wr.cell? ⟨wb, 0, none⟩ = some (.slice (some ⟨nb, 0, none⟩) l.length l.length) := by simp only [World.cell?, HR.out.2.2.web]; rfl
        have e1 : wr.cell? ⟨wb, 1, none⟩ = some (.slice (some ⟨bb true, 0, none⟩) l.length l.length) := by simp only [World.cell?, HR.out.2.2.web]; rfl
        have e2 : wr.cell? ⟨wb, 2, none⟩ = some (.slice (some ⟨bb false, 0, none⟩) l.length l.length) := by simp only [World.cell?, HR.out.2.2.web]; rfl
        have hwn : ¬ wb = nb := fun e => HR.out.2.2.ne.1 e.symm
        have hnw : ¬ nb = wb := HR.out.2.2.ne.1
        have hwl : wb < wr.heap.size := (Array.getElem?_eq_some_iff.1 HR.out.2.2.web).1
        have hnl : nb < wr.heap.size := (Array.getElem?_eq_some_iff.1 HR.out.2.2.names).1
        have hcl := cost_le l (j + 1)
        rw [cost_take HX.out] at hcl
        have WE : Hid (Calls Try.prog 23 #[.agg #[.slice (some ⟨nb, 0, none⟩) l.length l.length, .slice (some ⟨bb true, 0, none⟩) l.length l.length, .slice (some ⟨bb false, 0, none⟩) l.length l.length], .int .i64 i, .slice na nd.needs.length nc, .map (some mb)] ((wr.setCell ⟨nb, i, none⟩ (.string nd.name)).alloc (.cells #[.string nd.name, .slice na nd.needs.length nc] 32)) fun e w' =>
            ∃ (t : Nat) (ok : Bool) (vs' : Bool → List Value) (R' : Bool → List (List Nat)), e = .returned (.bool ok) ∧ WS (w.heap.size + 5) bb l.length vs' R' w' ∧ (R' true, R' false) = adds i ((nd.needs.take t).filterMap (plc S)) (R true, R false) ∧ (∀ s k, (row (R' s) k).length ≤ cost (l.take j) + nd.needs.length) ∧
              ((ok = true ∧ t = nd.needs.length ∧ ∀ s ∈ nd.needs, plc S s ≠ none) ∨ (ok = false ∧ ∃ s ∈ nd.needs, plc S s = none)) ∧ Tc (WT (w.heap.size + 5) bb) ((wr.setCell ⟨nb, i, none⟩ (.string nd.name)).alloc (.cells #[.string nd.name, .slice na nd.needs.length nc] 32)) w') :=
          weave_any B (w.heap.size + 5) l.length mb mn i (cost (l.take j)) bb vs R S nd.needs _ na _ nc _ V3.out.ws (HH.out.2.2.1.kept (V3.out.old.block _ HH.out.2.2.1.lt)) (by have := HH.out.2.2.1.lt; omega) (fun s => by have := HH.out.2.2.1.lt; have := V3.out.lt.2.1 s; omega) (HST.out.stay (fun k hk => V3.out.old.block k (Nat.lt_of_lt_of_le hk HH.out.2.2.2)) (Nat.le_refl _)) ⟨by have := HH.out.2.2.2; omega, fun s => by have := V3.out.lt.2.1 s; have := HH.out.2.2.2; omega⟩ V3.out.big HH.out.2.1.len hil hl HR.out.2.1 (by omega)
        clear hnd hc1 hc2 hst hpi hs0 cw
        go_wp2_with (at_lookup; refine wpList_look_at rfl _ _ rfl rfl HM.out nd.name rfl hnm i HP.out ?_)
        refine WE.out.mono ?_
        rintro e w4 ⟨t, ok, vs', R', rfl, hws, hadd, hlen, hok, htc⟩
        have H4 : Hid (VS w l.length nb wb bb vs' R' (nm.set i nd.name) w4 ∧ (∀ s k, (row (R' s) k).length ≤ cost (l.take (j + 1))) ∧ R' true = (adds i ((nd.needs.take t).filterMap (plc S)) (R true, R false)).1 ∧ R' false = (adds i ((nd.needs.take t).filterMap (plc S)) (R true, R false)).2) :=
          ⟨V3.out.weave hws htc, fun s k => by rw [cost_take HX.out]; exact hlen s k, (Prod.ext_iff.1 hadd).1, (Prod.ext_iff.1 hadd).2⟩
        rcases hok with ⟨rfl, ht, hall⟩ | ⟨rfl, s1, hs1, hp1⟩
        · have H5 : Hid (Wov S l (j + 1) (R' true) (R' false) (nm.set i nd.name) lost) := by
            have := HR.out.1.step HH.out.2.1 HX.out HP.out t (Or.inl ⟨ht, fun ⟨s, h1, h2⟩ => hall s h1 h2, rfl⟩)
            rw [← H4.out.2.2.1, ← H4.out.2.2.2] at this
            exact this
          clear hws hadd hlen htc ht hall WE d0 d1 d2 d3 e0 e1 e2 k1 k2 cn fn cw0
          go_wp2_with fail
          go_roundw
          case rel => exact ⟨j + 1, lost, vs', R', _, by omega, hlo, by go_num, rfl, H5.out, H4.out.2.1, H4.out.1⟩
          case measure => simp [intOf]; omega
        · have H5 : Hid (Wov S l (j + 1) (R' true) (R' false) (nm.set i nd.name) (min lost i)) := by
            have := HR.out.1.step HH.out.2.1 HX.out HP.out t (lost' := min lost i) (Or.inr ⟨⟨s1, hs1, hp1⟩, rfl⟩)
            rw [← H4.out.2.2.1, ← H4.out.2.2.2] at this
            exact this
          clear hws hadd hlen htc hs1 hp1 WE d0 d1 d2 d3 e0 e1 e2 k1 k2 cn fn cw0
          by_cases hil2 : i < lost
          · have he : min lost i = i := by omega
            rw [he] at H5
            go_wp2_with fail
            go_roundw
            case rel => exact ⟨j + 1, i, vs', R', _, by omega, by omega, by go_num, by congr 1; omega, H5.out, H4.out.2.1, H4.out.1⟩
            case measure => simp [intOf]; omega
          · have he : min lost i = lost := by omega
            rw [he] at H5
            go_wp2_with fail
            go_roundw
            case rel => exact ⟨j + 1, lost, vs', R', _, by omega, hlo, by go_num, by congr 1; omega, H5.out, H4.out.2.1, H4.out.1⟩
            case measure => simp [intOf]; omega
      · obtain rfl : j = l.length := by omega
        have r0 : wr.cell? ⟨w.heap.size, 0, none⟩ = some (.slice none 0 0) := by simp [World.cell?, HR.out.2.2.res]
        have r1 : wr.cell? ⟨w.heap.size, 1, none⟩ = some (.slice none 0 0) := by simp [World.cell?, HR.out.2.2.res]
        have r2 : wr.cell? ⟨w.heap.size, 2, none⟩ = some (.slice none 0 0) := by simp [World.cell?, HR.out.2.2.res]
        have f0 : ∀ q, wr.frozen? ⟨w.heap.size, q, none⟩ = false := fun q => by simp [World.frozen?, HR.out.2.2.res]
        have f1 := f0 1
        have f2 := f0 2
        have f3 := f0 0
        have e0 : wr.cell? ⟨wb, 0, none⟩ = some (.slice (some ⟨nb, 0, none⟩) l.length l.length) := by simp only [World.cell?, HR.out.2.2.web]; rfl
        have e1 : wr.cell? ⟨wb, 1, none⟩ = some (.slice (some ⟨bb true, 0, none⟩) l.length l.length) := by simp only [World.cell?, HR.out.2.2.web]; rfl
        have e2 : wr.cell? ⟨wb, 2, none⟩ = some (.slice (some ⟨bb false, 0, none⟩) l.length l.length) := by simp only [World.cell?, HR.out.2.2.web]; rfl
        have hw1 : wb ≠ w.heap.size := by have := HR.out.2.2.lt.2.2.1; omega
        have hw2 : nb ≠ w.heap.size := by have := HR.out.2.2.lt.1.1; omega
        clear f0
        by_cases hlo2 : lost < l.length
        · have HN := HR.out.1.names_eq HH.out.2.1
          obtain ⟨⟨nd, hn, hp, hL⟩, hleast⟩ := HR.out.1.lost hlo2
          have hc0 := HR.out.2.2.ncell (i := lost) (s := nd.name) (by rw [HN]; exact (plc_some hp).2)
          have HQ : Hid (nd ∈ l ∧ plc S nd.name = some lost ∧ Lacks S nd ∧ ∀ m ∈ l, ∀ k, plc S m.name = some k → Lacks S m → lost ≤ k) := ⟨hn, hp, hL, hleast⟩
          clear HN hn hp hL hleast
          go_wp2_with fail
          go_region
          all_goals
            have HV2 : Hid (Below w.heap.size w (((wr.setCell ⟨w.heap.size, 0, none⟩ (.slice none 0 0)).setCell ⟨w.heap.size, 1, none⟩ (.slice none 0 0)).setCell ⟨w.heap.size, 2, none⟩ (.slice none 0 0)).drew) := ((((HR.out.2.2.old.setCell (p := ⟨w.heap.size, 0, none⟩) (Nat.le_refl _) _).setCell (p := ⟨w.heap.size, 1, none⟩) (Nat.le_refl _) _).setCell (p := ⟨w.heap.size, 2, none⟩) (Nat.le_refl _) _)).drew
            go_wp2_with fail
            refine bodyPost_ret (ret15 _ w.heap.size _ _ _ _ rfl (set3 (w := wr) HR.out.2.2.res _ _ _)) rfl ?_
            exact ⟨HV2.out, Or.inl ⟨nd, lost, HQ.out.1, HQ.out.2.1, HQ.out.2.2.1, HQ.out.2.2.2, rfl⟩⟩
        · obtain rfl : lost = l.length := by omega
          have HN := HR.out.1.names_eq HH.out.2.1
          have HW := HR.out.1.whole HH.out.2.1
          have HQ : Hid (nm = S ∧ (∀ nd ∈ l, ¬ Lacks S nd) ∧ IsN l S (row (R true))) := ⟨HN, HW.1, HW.2⟩
          clear HN HW
          have hcl := cost_le l l.length
          go_wp2_with fail
          have HV2 : Hid (Below w.heap.size w (((wr.setCell ⟨w.heap.size, 0, none⟩ (.slice (some ⟨nb, 0, none⟩) l.length l.length)).setCell ⟨w.heap.size, 1, none⟩ (.slice (some ⟨bb true, 0, none⟩) l.length l.length)).setCell ⟨w.heap.size, 2, none⟩ (.slice (some ⟨bb false, 0, none⟩) l.length l.length))) := ((((HR.out.2.2.old.setCell (p := ⟨w.heap.size, 0, none⟩) (Nat.le_refl _) _).setCell (p := ⟨w.heap.size, 1, none⟩) (Nat.le_refl _) _).setCell (p := ⟨w.heap.size, 2, none⟩) (Nat.le_refl _) _))
          have HW2 : Hid (WS (w.heap.size + 5) bb l.length vs R (((wr.setCell ⟨w.heap.size, 0, none⟩ (.slice (some ⟨nb, 0, none⟩) l.length l.length)).setCell ⟨w.heap.size, 1, none⟩ (.slice (some ⟨bb true, 0, none⟩) l.length l.length)).setCell ⟨w.heap.size, 2, none⟩ (.slice (some ⟨bb false, 0, none⟩) l.length l.length))) := HR.out.2.2.ws.kept fun k hk hS => set3_ne (by
            rcases hS with ⟨s, q⟩ | q
            · have := HR.out.2.2.lt.2.1 s
              omega
            · omega) _ _ _
          refine bodyPost_ret (ret15 _ w.heap.size _ _ _ _ rfl (set3 HR.out.2.2.res _ _ _)) rfl ?_
          refine ⟨HV2.out, Or.inr ⟨nb, bb true, bb false, R true, R false, rfl, HR.out.1.two, HQ.out.2.1, HQ.out.2.2, HW2.out.mat true hl (fun i => Nat.le_trans (HR.out.2.1 true i) (by omega)), HW2.out.mat false hl (fun i => Nat.le_trans (HR.out.2.1 false i) (by omega)), ?_⟩⟩
          rw [set3_ne hw2, HR.out.2.2.names, HQ.out.1]
  go_region
  all_goals
    refine KEY _ _ _ _ _ ⟨(alloc5 w _ _ _ _ _).1, (alloc5 w _ _ _ _ _).2.1, (alloc5 w _ _ _ _ _).2.2.1, ?_, ?_, ?_, ?_, by omega⟩
    all_goals first
      | exact (alloc5 w _ _ _ _ _).2.2.2.1
      | exact (alloc5 w _ _ _ _ _).2.2.2.2.1
      | exact (alloc5 w _ _ _ _ _).2.2.2.2.2.1
      | exact (alloc5 w _ _ _ _ _).2.2.2.2.2.2
end Go.Proofs.Ytilcongilokppad
