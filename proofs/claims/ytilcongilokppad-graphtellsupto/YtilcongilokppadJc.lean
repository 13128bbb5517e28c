/- Package graph: left. -/
import Derived.Test.YtilcongilokppadJb
import Derived.Deep.LoopGhost
namespace Go.Proofs.Ytilcongilokppad
set_option linter.unusedVariables false
set_option linter.unusedSimpArgs false
open Go.RowKit

def metF (ms : List Bool) : Nat → Bool := fun k => ms.getD k false
theorem metF_set {ms : List Bool} {i : Nat} (hi : i < ms.length) : metF (ms.set i true) = fun x => if x = i then true else metF ms x := by
  funext x
  unfold metF
  by_cases h : x = i
  · subst h
    simp [List.getD, hi]
  · rw [if_neg h, List.getD_eq_getElem?_getD, List.getElem?_set_ne (fun e => h e.symm), ← List.getD_eq_getElem?_getD]
theorem metF_start (n : Nat) : metF (List.replicate n false) = fun _ => false := by
  funext x
  unfold metF
  by_cases h : x < n
  · simp [List.getD, h]
  · simp [List.getD, show ¬ x < n from h]

theorem LS.start (w : World) (n : Nat) (hn : n ≤ 1048576) : LS w n (List.replicate n false) (.slice none 0 0) [] (List.replicate n 0) (.slice none 0 0) []
    ((((w.alloc (.cells #[.slice none 0 0] 43)).alloc (.cells (madeCells #[.int .i64 0] n) 3)).alloc (.cells (madeCells #[.bool false] n) 4)).alloc (.cells #[.slice (some ⟨w.heap.size + 1 + 1, 0, none⟩) n n] 79)) := by
  have a0 := fun (u : World) (o : Obj) (k : Nat) (h : k < u.heap.size) => Below.heap_alloc u o k h
  refine ⟨((((Below.refl _ _).alloc (Nat.le_refl _) _).alloc (by simp) _).alloc (by simp; omega) _).alloc (by simp; omega) _, ⟨?_, ?_, by simp, ?_, RowI.nil _ _, by omega⟩, ?_, RowI.nil _ _, fun g hg => by simp [Value.ownBlock] at hg⟩
  · have := heap_alloc_new (((w.alloc (.cells #[.slice none 0 0] 43)).alloc (.cells (madeCells #[.int .i64 0] n) 3)).alloc (.cells (madeCells #[.bool false] n) 4)) (.cells #[.slice (some ⟨w.heap.size + 1 + 1, 0, none⟩) n n] 79)
    simpa using this
  · rw [a0 _ _ _ (by simp), ← bools_made]
    have := heap_alloc_new ((w.alloc (.cells #[.slice none 0 0] 43)).alloc (.cells (madeCells #[.int .i64 0] n) 3)) (.cells (madeCells #[.bool false] n) 4)
    simpa using this
  · rw [a0 _ _ _ (by simp; omega), a0 _ _ _ (by simp; omega), a0 _ _ _ (by simp)]
    exact heap_alloc_new w _
  · have := row_made (w.heap.size + 1) n hn (w.alloc (.cells #[.slice none 0 0] 43)) (by simp)
    rw [show (w.alloc (.cells #[.slice none 0 0] 43)).heap.size = w.heap.size + 1 by simp] at this
    refine RowI.kept this fun k hk => ?_
    simp [Value.ownBlock] at hk
    subst hk
    rw [a0 _ _ _ (by simp), a0 _ _ _ (by simp)]

/-- What enter does: nothing, or one more. -/
def Entered (ms : List Bool) (xs : List Nat) (v : Value) (i : Nat) (ms' : List Bool) (xs' : List Nat) (v' : Value) : Prop :=
  (ms.getD i false = true ∧ ms' = ms ∧ xs' = xs ∧ v' = v) ∨ (ms.getD i false = false ∧ ms' = ms.set i true ∧ xs' = xs ++ [i])
theorem enterL_any (B mb mr pb n i : Nat) (ms : List Bool) (v : Value) (xs : List Nat) (w : World) (H : ES B mb mr pb n ms v xs w) (hB : B ≤ w.heap.size) (hi : i < n) (hn : n ≤ 1048576) (hl : xs.length ≤ 1048576) :
    Calls Try.prog 39 #[.int .i64 i, .pointer (some ⟨mb, 0, none⟩), .pointer (some ⟨pb, 0, none⟩)] w fun e w' => e = .returned (.tuple #[]) ∧ ∃ ms' xs' v', Entered ms xs v i ms' xs' v' ∧ ES B mb mr pb n ms' v' xs' w' ∧ Tc (ET mr pb v) w w' ∧ Lies w v v' := by
  cases hm : ms.getD i false with
  | true =>
    refine (enterL_yes B mb mr pb n i ms v xs w H hi hn hm).mono ?_
    rintro e w' ⟨rfl, rfl⟩
    exact ⟨rfl, ms, xs, v, Or.inl ⟨hm, rfl, rfl, rfl⟩, H, Tc.refl _ _, Lies.refl _ _⟩
  | false =>
    refine (enterL_no B mb mr pb n i ms v xs w H hB hi hn hl hm).mono ?_
    rintro e w' ⟨rfl, v', h1, h2, h3⟩
    exact ⟨rfl, _, _, v', Or.inr ⟨hm, rfl, rfl⟩, h1, h2, h3⟩
theorem enterG_any (B mb mr pb n i : Nat) (ms : List Bool) (v : Value) (xs : List Nat) (w : World) (H : ES B mb mr pb n ms v xs w) (hB : B ≤ w.heap.size) (hi : i < n) (hn : n ≤ 1048576) (hl : xs.length ≤ 1048576) :
    Calls Try.prog 37 #[.int .i64 i, .pointer (some ⟨mb, 0, none⟩), .pointer (some ⟨pb, 0, none⟩)] w fun e w' => e = .returned (.tuple #[]) ∧ ∃ ms' xs' v', Entered ms xs v i ms' xs' v' ∧ ES B mb mr pb n ms' v' xs' w' ∧ Tc (ET mr pb v) w w' ∧ Lies w v v' := by
  cases hm : ms.getD i false with
  | true =>
    refine (enterG_yes B mb mr pb n i ms v xs w H hi hn hm).mono ?_
    rintro e w' ⟨rfl, rfl⟩
    exact ⟨rfl, ms, xs, v, Or.inl ⟨hm, rfl, rfl, rfl⟩, H, Tc.refl _ _, Lies.refl _ _⟩
  | false =>
    refine (enterG_no B mb mr pb n i ms v xs w H hB hi hn hl hm).mono ?_
    rintro e w' ⟨rfl, v', h1, h2, h3⟩
    exact ⟨rfl, _, _, v', Or.inr ⟨hm, rfl, rfl⟩, h1, h2, h3⟩

section
variable {n : Nat} {N : Nat → List Nat} {k : Nat} {out path gone xs' : List Nat} {ms ms' : List Bool} {v v' : Value}
theorem walk_begin (h : Walk n N k out [] gone (metF ms)) (hl : ms.length = n) (hk : k < n) (he : Entered ms [] v k ms' xs' v') : Walk n N (k + 1) out xs' gone (metF ms') := by
  rcases he with ⟨h1, rfl, rfl, rfl⟩ | ⟨h1, rfl, rfl⟩
  · exact h.known (List.mem_append.2 ((h.met k hk).1 h1))
  · have := h.enter hk h1 fun p e he => by simp at he
    rw [← metF_set (by omega)] at this
    exact this.known (by simp)
theorem walk_on {p : List Nat} {a m : Nat} (h : Walk n N k out path gone (metF ms)) (hl : ms.length = n) (hN : ∀ k, k < n → ∀ m ∈ N k, m < n) (hp : path = p ++ [a]) (hm : (N a)[gone.getD a 0]? = some m) (he : Entered ms path v m ms' xs' v') :
    Walk n N k out xs' (gone.set a (gone.getD a 0 + 1)) (metF ms') ∧ xs'.length ≤ path.length + 1 := by
  have ha : a < n := h.lt a (List.mem_append_right _ (by simp [hp]))
  have hmn := hN a ha m (List.mem_of_getElem? hm)
  rcases he with ⟨h1, rfl, rfl, rfl⟩ | ⟨h1, rfl, rfl⟩
  · exact ⟨h.go hp hm (List.mem_append.2 ((h.met m hmn).1 h1)), by omega⟩
  · have := h.goEnter hp hN hm h1
    rw [← metF_set (by omega)] at this
    exact ⟨this, by simp⟩
theorem Walk.small (h : Walk n N k out path gone (metF ms)) : out.length + path.length ≤ n := by
  have := nodup_len (out ++ path) (List.range n) h.nd fun x hx => List.mem_range.2 (h.lt x hx)
  simpa using this
end

set_option maxRecDepth 100000 in
set_option maxHeartbeats 6400000 in
theorem left_any (B n : Nat) (R : List (List Nat)) (da : Option Addr) (dc : Nat) (w : World) (hM : Mat B w da R) (hlen : R.length = n) (hN : ∀ k, ∀ m ∈ row R k, m < n) (hB : B ≤ w.heap.size) (hn : n ≤ 1048576) :
    Calls Try.prog 29 #[.slice da n dc] w fun e w' => Below w.heap.size w w' ∧ ∃ o v, e = .returned v ∧ RowI w.heap.size v o w' ∧ Left n (row R) o := by
  have HM : Hid (Mat B w da R ∧ B ≤ w.heap.size ∧ (∀ k, k < n → ∀ m ∈ row R k, m < n) ∧ R.length = n) := ⟨hM, hB, fun k _ => hN k, hlen⟩
  clear hM hB hN hlen
  have hmk := make_ints n hn
  have hmb := make_bools n hn
  go_enter Try.func29, Try.ntmps29
  go_wp2_with fail
  have H0 : Hid (Walk n (row R) 0 [] [] (List.replicate n 0) (metF (List.replicate n false)) ∧ LS w n (List.replicate n false) (.slice none 0 0) [] (List.replicate n 0) (.slice none 0 0) []
    ((((w.alloc (.cells #[.slice none 0 0] 43)).alloc (.cells (madeCells #[.int .i64 0] n) 3)).alloc (.cells (madeCells #[.bool false] n) 4)).alloc (.cells #[.slice (some ⟨w.heap.size + 1 + 1, 0, none⟩) n n] 79))) := ⟨by rw [metF_start]; exact Walk.start n _, LS.start w n hn⟩
  clear hmk hmb
  go_loopg [3, 20] n (fun g vo i wr => ∃ (k : Nat) (out gone : List Nat) (ms : List Bool) (v : Value), k ≤ n ∧ g = n - k ∧ i = .int .i64 k ∧ Hid (Walk n (row R) k out [] gone (metF ms) ∧ LS w n ms v [] gone vo out wr))
  case atStart => exact ⟨0, [], _, _, _, Nat.zero_le _, rfl, rfl, H0.out⟩
  case round =>
    obtain ⟨k, out, gone, ms, v, hkn, rfl, rfl, HR⟩ := hrel
    clear H0
    by_cases hlt : k < n
    · have EN : Hid (Calls Try.prog 39 #[.int .i64 k, .pointer (some ⟨w.heap.size + 1 + 1 + 1, 0, none⟩), .pointer (some ⟨w.heap.size, 0, none⟩)] wr fun e w' => e = .returned (.tuple #[]) ∧ ∃ ms' xs' v', Entered ms [] v k ms' xs' v' ∧ ES (w.heap.size + 1 + 1 + 1 + 1) (w.heap.size + 1 + 1 + 1) (w.heap.size + 1 + 1) w.heap.size n ms' v' xs' w' ∧ Tc (ET (w.heap.size + 1 + 1) w.heap.size v) wr w' ∧ Lies wr v v') :=
        enterL_any _ _ _ _ n k ms v [] wr HR.out.2.es HR.out.2.size hlt hn (by simp)
      go_wp2_with fail
      refine EN.out.mono ?_
      rintro e w1 ⟨rfl, ms1, path1, v1, hen, hes, htc, hly⟩
      have H1 : Hid (Walk n (row R) (k + 1) out path1 gone (metF ms1) ∧ LS w n ms1 v1 path1 gone u3 out w1) := ⟨walk_begin HR.out.1 HR.out.2.es.mlen hlt hen, HR.out.2.enter hes htc hly⟩
      clear hen hes htc hly EN HR
      go_wp2_with fail
      go_loopg [3] (2 * togo (row R) gone n + path1.length) (fun g vo wr => ∃ (out path gone : List Nat) (ms : List Bool) (v : Value), g = 2 * togo (row R) gone n + path.length ∧ Hid (Walk n (row R) (k + 1) out path gone (metF ms) ∧ LS w n ms v path gone vo out wr))
      case atStart => exact ⟨out, path1, gone, ms1, v1, rfl, H1.out⟩
      case round =>
        clear H1 ms1 v1 path1 gone out ms v
        obtain ⟨out, path, gone, ms, v, rfl, HL⟩ := hrel
        have hsmall := HL.out.1.small
        have hcp := HL.out.2.es.pcell
        rcases List.eq_nil_or_concat path with hp | ⟨p, at', hp⟩
        · subst hp
          obtain ⟨va, vc, hv, _, _⟩ := HL.out.2.es.row.form
          subst hv
          simp only [List.length_nil] at hcp
          go_wp2_with fail
          go_roundg (n - (k + 1))
          case rel => exact ⟨k + 1, out, gone, ms, _, by omega, rfl, by go_num, HL.out⟩
          case measure => omega
        · rw [List.concat_eq_append] at hp
          have HP : Hid (path = p ++ [at']) := hp
          have hpl : path.length = p.length + 1 := by rw [hp]; simp
          obtain ⟨g, cap, hv, hg1, hg2, hcap⟩ := HL.out.2.es.row.is (by omega)
          rw [hpl] at hv
          subst hv
          have hat : at' < n := HL.out.1.lt at' (by rw [hp]; simp)
          have hce : wr.cell? ⟨g, p.length, none⟩ = some (.int .i64 at') := by
            have := HL.out.2.es.row.cell (i := p.length) (by omega)
            rw [show path.getD p.length 0 = at' by rw [hp]; simp] at this
            exact this
          obtain ⟨q, HQ⟩ : ∃ q, Hid (gone.getD at' 0 = q) := ⟨_, rfl⟩
          have hcg := HL.out.2.gcell hat
          rw [HQ.out] at hcg
          have hfg := HL.out.2.gfrozen at'
          have hRl := HM.out.2.2.2
          obtain ⟨b, o, ia, ic, rfl, hbB, hc, hI⟩ := HM.out.1.at (j := at') (by omega)
          have hcr := (HL.out.2.old.cell (p := ⟨b, o + at', none⟩) (Nat.lt_of_lt_of_le hbB HM.out.2.1)).trans hc
          have hrl := hI.1
          have hpf := HL.out.2.es.pfrozen
          have hps : p.length ≤ 1048576 := by omega
          clear hg2 hp hpl hRl hc
          by_cases hq : q < (row R at').length
          · obtain ⟨b2, o2, m, rfl, hb2, hm, hcm⟩ := hI.at hq
            have hcm2 := (HL.out.2.old.cell (p := ⟨b2, o2 + q, none⟩) (Nat.lt_of_lt_of_le hb2 HM.out.2.1)).trans hcm
            have hmn : m < n := HM.out.2.2.1 at' hat m (List.mem_of_getElem? hm)
            have HMM : Hid ((row R at')[gone.getD at' 0]? = some m) := by
              show (row R at')[gone.getD at' 0]? = some m
              rw [HQ.out]
              exact hm
            have HS : Hid (LS w n ms (.slice (some ⟨g, 0, none⟩) (p.length + 1) cap) path (gone.set at' (q + 1)) u3 out (wr.setCell ⟨w.heap.size + 1, at', none⟩ (.int .i64 ((q + 1 : Nat) : Int)))) := HL.out.2.store hat (q + 1)
            have hbne : b ≠ w.heap.size + 1 := by have := HM.out.2.1; omega
            have hb2ne : b2 ≠ w.heap.size + 1 := by have := HM.out.2.1; omega
            have EN : Hid (Calls Try.prog 39 #[.int .i64 m, .pointer (some ⟨w.heap.size + 1 + 1 + 1, 0, none⟩), .pointer (some ⟨w.heap.size, 0, none⟩)] (wr.setCell ⟨w.heap.size + 1, at', none⟩ (.int .i64 ((q + 1 : Nat) : Int))) fun e w' => e = .returned (.tuple #[]) ∧ ∃ ms' xs' v', Entered ms path (.slice (some ⟨g, 0, none⟩) (p.length + 1) cap) m ms' xs' v' ∧ ES (w.heap.size + 1 + 1 + 1 + 1) (w.heap.size + 1 + 1 + 1) (w.heap.size + 1 + 1) w.heap.size n ms' v' xs' w' ∧ Tc (ET (w.heap.size + 1 + 1) w.heap.size (.slice (some ⟨g, 0, none⟩) (p.length + 1) cap)) (wr.setCell ⟨w.heap.size + 1, at', none⟩ (.int .i64 ((q + 1 : Nat) : Int))) w' ∧ Lies (wr.setCell ⟨w.heap.size + 1, at', none⟩ (.int .i64 ((q + 1 : Nat) : Int))) (.slice (some ⟨g, 0, none⟩) (p.length + 1) cap) v') :=
              enterL_any _ _ _ _ n m ms _ path _ HS.out.es HS.out.size hmn hn (by omega)
            clear hm hcm hI
            go_wp2_with fail
            refine EN.out.mono ?_
            rintro e w2 ⟨rfl, ms2, path2, v2, hen, hes, htc, hly⟩
            have H2 : Hid ((Walk n (row R) (k + 1) out path2 (gone.set at' (q + 1)) (metF ms2) ∧ path2.length ≤ path.length + 1) ∧ LS w n ms2 v2 path2 (gone.set at' (q + 1)) u3 out w2 ∧ togo (row R) (gone.set at' (q + 1)) n + 1 = togo (row R) gone n) := by
              have h1 := walk_on HL.out.1 HL.out.2.es.mlen HM.out.2.2.1 HP.out HMM.out hen
              have h2 := (togo_set (N := row R) (gone := gone) (a := at') (by rw [HL.out.2.glen]; exact hat) (by rw [HQ.out]; exact hq) n).2 hat
              rw [HQ.out] at h1 h2
              exact ⟨h1, HS.out.enter hes htc hly, h2⟩
            clear hen hes htc hly EN
            go_wp2_with fail
            go_roundg (2 * togo (row R) (gone.set at' (q + 1)) n + path2.length)
            case rel => exact ⟨out, path2, _, ms2, v2, rfl, H2.out.1.1, H2.out.2.1⟩
            case measure =>
              have h1 := H2.out.1.2
              have h2 := H2.out.2.2
              omega
          · have HC : Hid (LS w n ms (.slice (some ⟨g, 0, none⟩) p.length cap) p gone u3 out (wr.setCell ⟨w.heap.size, 0, none⟩ (.slice (some ⟨g, 0, none⟩) p.length cap)) ∧ Walk n (row R) (k + 1) (out ++ [at']) p gone (metF ms)) := by
              have h1 := HL.out
              rw [HP.out] at h1
              exact ⟨h1.2.cut, h1.1.leave (by rw [HQ.out]; omega)⟩
            have hcap2 : p.length + 1 ≤ cap := by
              have := HP.out
              rw [this] at hcap
              simpa using hcap
            have hpath : path.length = p.length + 1 := by rw [HP.out]; simp
            have HPL : Hid (path.length = p.length + 1) := hpath
            clear hI hpath
            go_wp2_with (at_builtin; refine wpList_pushI at' _ rfl _ _ rfl (w.heap.size + 1 + 1 + 1 + 1) u3 out rfl HC.out.1.out rfl (by simp) HC.out.1.size (by omega) ?_)
            intro g4 cap4 w4 hr4 hg4 ha4
            have H4 : Hid (LS w n ms (.slice (some ⟨g, 0, none⟩) p.length cap) p gone (.slice (some ⟨g4, 0, none⟩) (out.length + 1) cap4) (out ++ [at']) w4) := HC.out.1.push hr4 hg4 (fun g' hg' => by
              simp [Value.ownBlock] at hg'
              subst hg'
              simpa using ha4)
            clear hr4 hg4 ha4
            go_wp2_with fail
            go_roundg (2 * togo (row R) gone n + p.length)
            case rel => exact ⟨_, p, gone, ms, _, rfl, HC.out.2, H4.out⟩
            case measure =>
              have := HPL.out
              omega
    · obtain rfl : k = n := by omega
      have HR2 : Hid (Below w.heap.size w wr ∧ RowI w.heap.size u3 out wr ∧ Left k (row R) out) := ⟨HR.out.2.old, HR.out.2.out.mono (by omega), HR.out.1.left⟩
      clear HR
      go_wp2_with fail
      go_ret
      exact ⟨HR2.out.1, out, _, rfl, HR2.out.2.1, HR2.out.2.2⟩
end Go.Proofs.Ytilcongilokppad
