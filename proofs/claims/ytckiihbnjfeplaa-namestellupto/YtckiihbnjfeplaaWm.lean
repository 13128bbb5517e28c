/- Package names: pairs are sorted. -/
import Derived.Test.YtckiihbnjfeplaaWl
import Derived.Laws.OwnMore
namespace Go.Proofs.Ytckiihbnjfeplaa
set_option linter.unusedVariables false
set_option linter.unusedSimpArgs false
open Go.RowKit Go.Lib Go.Sort

def cfP (x y : Pr) : Int := cmpB x.1 y.1

theorem swoP : SWO (ltOf cfP) where
  irrefl x := ltB_irrefl x.1
  trans x y z h1 h2 := ltB_trans h1 h2
  ntrans x y z h1 h2 := ltB_ntrans h1 h2

set_option maxRecDepth 100000 in
set_option maxHeartbeats 1000000 in
theorem closureP (x y : Pr) (W : World) : Calls Try.prog 16 #[.agg #[.string x.1, .string x.2], .agg #[.string y.1, .string y.2]] W fun e w' => e = .returned (.int .i64 (cfP x y)) ∧ ∃ q os', w' = grow (W.drewN q) os' := by
  have SC : Hid (∀ w, Calls Try.prog 17 #[.string x.1, .string y.1] w fun e w' => e = .returned (.int .i64 (cfP x y)) ∧ w' = w) := fun w => Try.strings_Compare x.1 y.1 w
  obtain ⟨x1, x2⟩ := x
  obtain ⟨y1, y2⟩ := y
  generalize cfP (x1, x2) (y1, y2) = r at SC ⊢
  simp only at SC
  go_enter Try.func16, Try.ntmps16
  go_wp2_with fail
  refine (SC.out _).mono ?_
  rintro e w' ⟨rfl, rfl⟩
  go_wp2_with fail
  go_ret
  exact ⟨rfl, 0, _, by rw [alloc_eq_grow, alloc_eq_grow, grow_grow]; rfl⟩

theorem cmpLaysP (blk off size : Nat) (w : World) : CmpLays Try.prog 16 #[] encP 2 cfP blk off size w := fun _ _ _ _ x y => closureP x y _

section
variable {α : Type} [Inhabited α]
theorem perm_of_permIn {d d' : Array α} (h : PermIn 0 d.size d d') : d'.size = d.size ∧ d'.toList.Perm d.toList := by
  obtain ⟨h1, _, h3⟩ := h
  refine ⟨h1, ?_⟩
  rw [Array.extract_eq_self_of_le (by omega), Array.extract_eq_self_of_le (by omega)] at h3
  exact h3
theorem pairwise_of_sortedIn {lt : α → α → Bool} {d : Array α} {n : Nat} (hn : n = d.size) (h : SortedIn lt 0 n d) : d.toList.Pairwise fun x y => lt y x = false := by
  rw [List.pairwise_iff_getElem]
  intro i j hi hj hij
  subst hn
  have hj' : j < d.size := by simpa using hj
  have := h i j (Nat.zero_le _) hij hj'
  rw [getElem!_pos d j hj', getElem!_pos d i (by omega)] at this
  simpa using this
end

theorem below_sortWorld {α : Type} [Inhabited α] {enc : α → List Value} {k : Nat} {w : World} {B blk off n : Nat} {d : Array α} {os : Array Obj} (hB : B ≤ blk) (hs : blk < w.heap.size) : Below B w (sortWorldK enc k w blk off n d os) := by
  have hsz : (putRowK enc k (Sort.ahead w n) blk off d).heap.size = w.heap.size := size_putRowK enc k (Sort.ahead w n) blk off d
  refine ⟨rfl, rfl, rfl, ?_, ?_⟩
  · unfold sortWorldK
    rw [size_grow, hsz]
    omega
  · intro j hj
    unfold sortWorldK
    rw [heap_grow_old _ _ (by rw [hsz]; omega)]
    show (mapBlock (Sort.ahead w n) blk _).heap[j]? = _
    unfold mapBlock
    simp only [Array.getElem?_modify]
    rw [if_neg (by omega)]
    rfl

set_option maxRecDepth 100000 in
theorem sortPairs_any (B : Nat) (v : Value) (ps : List Pr) (w : World) (hr : RowP B v ps w) (hl : ps.length ≤ 200) (hn : (ps.map (·.1)).Nodup) :
    Calls Try.prog 15 #[v, .func (.func 16) #[] #[]] w fun e w' => e = .returned (.tuple #[]) ∧ Below B w w' ∧ ∃ a cap, v = .slice a ps.length cap ∧ Prs w'.heap.size w' a (srt (·.1) ps) := by
  rcases hr.2 with ⟨rfl, h0⟩ | ⟨g, cap, cur, rfl, hbg, hg, hnc, hcm, hcs, htake⟩
  · have : ps = [] := List.length_eq_zero_iff.1 h0
    subst this
    refine (AnyF.slices_SortFunc_none Try.sortPair none 0 _ w).mono ?_
    rintro e w' ⟨rfl, rfl⟩
    exact ⟨rfl, Below.refl _ _, none, 0, rfl, by simp [srt], Or.inl rfl⟩
  · have hlt : g < w.heap.size := (Array.getElem?_eq_some_iff.1 hg).1
    have hH : HoldsK encP 2 w g 0 ps.toArray := by
      intro j hj
      rw [size_flatK] at hj
      have hj' : j < ps.length * 2 := by simpa using hj
      have c1 := World.ownsRow.cellAt hr j hj'
      have c2 := World.ownsRow.frozenAt hr j
      rw [Nat.zero_add]
      refine ⟨?_, c2⟩
      rw [c1, get_flatK _ _ _ _ hj]
      have hd : j / 2 < ps.length := by omega
      have e := flatP_at (ps := ps) (i := j / 2) (p := ps[j / 2]) (List.getElem?_eq_getElem hd)
      have e3 : ps.toArray[j / 2]! = ps[j / 2] := by
        rw [getElem!_pos ps.toArray (j / 2) (by simpa using hd)]
        simp
      rw [e3]
      rcases Nat.mod_two_eq_zero_or_one j with hm | hm
      · have : j = j / 2 * 2 := by omega
        rw [hm]
        conv => lhs; rw [this]
        rw [e.1]
        rfl
      · have : j = j / 2 * 2 + 1 := by omega
        rw [hm]
        conv => lhs; rw [this]
        rw [e.2]
        rfl
    have hsz : ps.toArray.size = ps.length := by simp
    have eg : ∀ args w, (callFunc 16 args).run Try.prog w = .ok (.enter 16 args) w := enters_of Try.func16 (by kernel_rfl) rfl
    have hcon := AnyQ.slices_SortFunc Try.sortPair 2 Try.isAgg43 Try.sizeOf43 encP (fun _ => rfl) (fun x v hv => by simp [encP] at hv; rcases hv with rfl | rfl <;> rfl) cfP swoP 16 #[] g 0 cap ps.toArray w eg (cmpLaysP g 0 ps.toArray.size w) hH hlt (by rw [hsz]; omega)
    change Calls Try.prog 15 _ _ _ at hcon
    rw [hsz] at hcon
    refine hcon.mono ?_
    rintro e w' ⟨rfl, d', n, os, hp, hs, rfl⟩
    have hp' : PermIn 0 ps.toArray.size ps.toArray d' := by rw [hsz]; exact hp
    obtain ⟨hds, hperm⟩ := perm_of_permIn hp'
    have hsz' : d'.size = ps.length := by rw [hds, hsz]
    have hpw : d'.toList.Pairwise fun x y => ltB y.1 x.1 = false := pairwise_of_sortedIn (lt := ltOf cfP) hsz'.symm hs
    have hsrt : d'.toList = srt (·.1) ps := srt_unique (fun x : Pr => x.1) hn (by simpa using hperm) hpw
    refine ⟨rfl, below_sortWorld hbg hlt, some ⟨g, 0, none⟩, cap, rfl, ?_, Or.inr ⟨g, 0, rfl, ?_, ?_⟩⟩
    · rw [(srt_perm _ _).length_eq]
      omega
    · exact Nat.lt_of_lt_of_le hlt (below_sortWorld (B := B) (enc := encP) (k := 2) (d := d') (n := n) (os := os) (off := 0) hbg hlt).size
    · intro i p hi
      have hHK := holdsK_sortWorldK encP 2 w g 0 n ps.toArray d' os hlt hH hds
      have hi' : i < d'.size := by
        have := lt_of_at hi
        rw [(srt_perm _ _).length_eq] at this
        omega
      have ep : d'[i]! = p := by
        rw [getElem!_pos d' i hi']
        rw [← hsrt] at hi
        rw [List.getElem?_eq_getElem (by simpa using hi')] at hi
        simpa using hi
      have q0 := (hHK.cell hi' (show 0 < 2 by decide)).1
      have q1 := (hHK.cell hi' (show 1 < 2 by decide)).1
      rw [ep] at q0 q1
      exact ⟨q0, q1⟩
end Go.Proofs.Ytckiihbnjfeplaa
