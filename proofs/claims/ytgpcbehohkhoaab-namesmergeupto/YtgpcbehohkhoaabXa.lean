/- The laws of chapter 2: sets that they build; the closed fact that they ask first. -/
import Derived.Test.YtgpcbehohkhoaabWn
import Derived.Laws.StructEq
namespace Go.Proofs.Ytgpcbehohkhoaab
set_option linter.unusedVariables false
set_option linter.unusedSimpArgs false
open Go.RowKit

def bm : ByteArray := ⟨#[109]⟩
def ba : ByteArray := ⟨#[97]⟩
def bb : ByteArray := ⟨#[98]⟩
def bx : ByteArray := ⟨#[120, 45]⟩
def bxb : ByteArray := ⟨#[120, 45, 98]⟩
def libS : St := .last ⟨1, bm, [], [], ByteArray.empty⟩

set_option maxRecDepth 100000 in
theorem alive_told : ofL (preS bx (onS 2 libS [bb])) [ba, bb] = .inr [(bxb, bb)] := by kernel_rfl

set_option maxRecDepth 100000 in
set_option maxHeartbeats 800000 in
theorem lib_any (w : World) : Calls Try.prog 20 #[] w fun e w' => e = .returned (.agg #[.int .i64 1, .string ⟨#[109]⟩, .slice none 0 0, .slice none 0 0, .string ⟨#[]⟩, .slice none 0 0]) ∧ Below w.heap.size w w' := by
  go_enter Try.func20, Try.ntmps20
  go_wp2_with fail
  refine bodyPost_ret (v := .agg #[.int .i64 1, .string ⟨#[109]⟩, .slice none 0 0, .slice none 0 0, .string ⟨#[]⟩, .slice none 0 0]) (by simp [results, Try.results20, go_sem]) rfl ⟨rfl, ?_⟩
  exact (Below.refl _ _).alloc (Nat.le_refl _) _

theorem LiesS.lib (B : Nat) (w : World) : LiesS B w libS [.int .i64 1, .string ⟨#[109]⟩, .slice none 0 0, .slice none 0 0, .string ⟨#[]⟩, .slice none 0 0] :=
  ⟨none, none, none, 0, 0, 0, rfl, ⟨by decide, by decide⟩, by decide, by decide, Strs.nil _ _ _, Strs.nil _ _ _⟩

/-- A set of another, whose cells lie in a block of their own. -/
theorem LiesS.wrap {B B' : Nat} {w w' : World} {s : St} {l : Ly} {a0 a1 e0 e1 e2 : Option Addr} {c0 c1 f0 f1 f2 nb cap : Nat} (h : LiesS B w s (setV s.ly e0 e1 e2 f0 f1 f2 s.nk)) (hw : Old B w w') (hB : B ≤ B') (hnb : nb < B') (hl : LiesL B' w' l a0 a1)
    (hc : ∀ (i : Nat) (v : Value), (setV s.ly e0 e1 e2 f0 f1 f2 s.nk)[i]? = some v → w'.cell? ⟨nb, i, none⟩ = some v) :
    LiesS B' w' (.more l 0 s) (setV l a0 a1 (some ⟨nb, 0, none⟩) c0 c1 cap 1) :=
  ⟨a0, a1, nb, 0, c0, c1, cap, _, rfl, hl, by decide, hnb, LiesS.stay hw hB s _ h, fun i v hv => by rw [Nat.zero_add]; exact hc i v hv⟩

theorem six_cells (w : World) {nb : Nat} (hnb : nb = w.heap.size) (v0 v1 v2 v3 v4 v5 : Value) (i : Nat) (v : Value) (hv : [v0, v1, v2, v3, v4, v5][i]? = some v) : (w.alloc (.cells #[v0, v1, v2, v3, v4, v5] 25)).cell? ⟨nb, i, none⟩ = some v := by
  subst hnb
  have := World.cell?_alloc_mark w #[v0, v1, v2, v3, v4, v5] 25 (0, 0) i
  rw [this]
  simpa using hv

section
variable (B : Nat) (kd : Int) (na : ByteArray) (nn nas : List ByteArray) (pr : ByteArray) (e0 e1 e2 : Option Addr) (f0 f1 f2 m : Nat) (k : Int) (a : Option Addr) (n c : Nat) (w : World)
set_option maxRecDepth 100000 in
set_option maxHeartbeats 1600000 in
theorem on_walk :
    Calls Try.prog 11 #[.int .i64 k, .agg #[.int .i64 kd, .string na, .slice e0 nn.length f0, .slice e1 nas.length f1, .string pr, .slice e2 m f2], .slice a n c] w fun e w' =>
      ∃ nb, w.heap.size ≤ nb ∧ nb < w'.heap.size ∧ e = .returned (.agg #[.int .i64 k, .string ⟨#[]⟩, .slice a n c, .slice none 0 0, .string ⟨#[]⟩, .slice (some ⟨nb, 0, none⟩) 1 1]) ∧ Below w.heap.size w w' ∧
        ∀ (i : Nat) (v : Value), (setV ⟨kd, na, nn, nas, pr⟩ e0 e1 e2 f0 f1 f2 m)[i]? = some v → w'.cell? ⟨nb, i, none⟩ = some v := by
  go_enter Try.func11, Try.ntmps11
  go_wp2_with fail
  refine bodyPost_ret (v := .agg #[.int .i64 k, .string ⟨#[]⟩, .slice a n c, .slice none 0 0, .string ⟨#[]⟩, .slice (some ⟨w.heap.size + 2, 0, none⟩) 1 1]) (by simp [results, Try.results11, go_sem]) rfl ?_
  refine ⟨w.heap.size + 2, by omega, by simp [go_sem, World.setCell], rfl, ?_, ?_⟩
  · exact (((Below.refl _ _).alloc (Nat.le_refl _) _).alloc (by simp) _).alloc (by simp; omega) _
  · intro i v hv
    exact six_cells _ (by simp) _ _ _ _ _ _ i v hv

theorem on_any (s : St) (vs : List Value) (l : List ByteArray) (hk : -9223372036854775808 ≤ k ∧ k ≤ 9223372036854775807) (h : LiesS B w s vs) (hl : Strs B w a l) (hB : B ≤ w.heap.size) :
    Calls Try.prog 11 #[.int .i64 k, aggOf vs, .slice a l.length c] w fun e w' => Below w.heap.size w w' ∧ ∃ vs', e = .returned (aggOf vs') ∧ LiesS w'.heap.size w' (onS k s l) vs' := by
  obtain ⟨e0, e1, e2, f0, f1, f2, rfl, hL, hn⟩ := h.cells
  refine (on_walk s.ly.kind s.ly.name s.ly.names s.ly.asn s.ly.pre e0 e1 e2 f0 f1 f2 s.nk k a l.length c w).mono ?_
  rintro e w' ⟨nb, hnb, hlt, rfl, hb, hc⟩
  have hold : Old B w w' := fun j hj => hb.block j (Nat.lt_of_lt_of_le hj hB)
  have hBw : B ≤ w'.heap.size := Nat.le_trans hB hb.size
  exact ⟨hb, _, rfl, LiesS.wrap h hold hBw hlt ⟨hk, Nat.zero_le _, Nat.zero_le _, hl.stay hold hBw, Strs.nil _ _ none⟩ hc⟩
end

/-- Texts of a literal. -/
theorem Strs.lit {w : World} (cs : List ByteArray) (hc : ∀ s ∈ cs, s.size ≤ 100) (hl : cs.length ≤ 1000) : Strs (w.heap.size + 1) (w.alloc (.cells (cs.map Value.string).toArray 9)) (some ⟨w.heap.size, 0, none⟩) cs := by
  refine ⟨by omega, fun s hs => by have := hc s hs; unfold maxLen; omega, Or.inr ⟨w.heap.size, 0, rfl, by omega, ?_⟩⟩
  intro i s hs
  have := World.cell?_alloc_mark w (cs.map Value.string).toArray 9 (0, 0) i
  rw [Nat.zero_add, this]
  simp [hs]

set_option maxRecDepth 100000 in
set_option maxHeartbeats 3200000 in
theorem alive_any (w : World) : Calls Try.prog 9 #[] w fun e w' => e = .returned (.bool true) ∧ Below w.heap.size w w' := by
  go_enter Try.func9, Try.ntmps9
  go_wp2_with fail
  refine (lib_any _).mono ?_
  rintro e w1 ⟨rfl, hb1⟩
  have H1 : Hid (Below w.heap.size w w1) := hb1
  clear hb1
  have ON : Hid (Calls Try.prog 11 #[.int .i64 2, .agg #[.int .i64 1, .string ⟨#[109]⟩, .slice none 0 0, .slice none 0 0, .string ⟨#[]⟩, .slice none 0 0], .slice (some ⟨w1.heap.size, 0, none⟩) 1 1] (w1.alloc (.cells #[.string ⟨#[98]⟩] 9)) fun e w' => Below (w1.alloc (.cells #[.string ⟨#[98]⟩] 9)).heap.size (w1.alloc (.cells #[.string ⟨#[98]⟩] 9)) w' ∧ ∃ vs', e = .returned (aggOf vs') ∧ LiesS w'.heap.size w' (onS 2 libS [bb]) vs') :=
    on_any (w1.heap.size + 1) 2 (some ⟨w1.heap.size, 0, none⟩) 1 (w1.alloc (.cells #[.string ⟨#[98]⟩] 9)) libS _ [bb] (by decide) (LiesS.lib _ _) (Strs.lit [bb] (by decide) (by decide)) (by simp)
  go_wp2_with fail
  refine ON.out.mono ?_
  rintro e w2 ⟨hb2, vs, rfl, hS⟩
  have HB2 : Hid (Below w.heap.size w w2) := (H1.out.alloc H1.out.size _).trans (hb2.mono (by have := H1.out.size; simp; omega))
  obtain ⟨a0, a1, a2, c0, c1, c2, rfl, hL, hn⟩ := hS.cells
  have HS : Hid (LiesS w2.heap.size w2 (onS 2 libS [bb]) (setV (onS 2 libS [bb]).ly a0 a1 a2 c0 c1 c2 (onS 2 libS [bb]).nk)) := hS
  clear hb2 hS hL hn ON
  unfold aggOf setV onS
  simp only [St.ly, St.nk]
  have OF : Hid (Calls Try.prog 10 #[.agg #[.int .i64 4, .string ⟨#[]⟩, .slice none 0 0, .slice none 0 0, .string ⟨#[120, 45]⟩, .slice (some ⟨w2.heap.size, 0, none⟩) 1 1], .slice (some ⟨w2.heap.size + 1, 0, none⟩) 2 2]
      ((w2.alloc (.cells #[.int .i64 2, .string ByteArray.empty, .slice a0 1 c0, .slice a1 0 c1, .string ByteArray.empty, .slice a2 1 c2] 25)).alloc (.cells #[.string ⟨#[97]⟩, .string ⟨#[98]⟩] 9))
      (OutO (.inr [(bxb, bb)]) ((w2.alloc (.cells #[.int .i64 2, .string ByteArray.empty, .slice a0 1 c0, .slice a1 0 c1, .string ByteArray.empty, .slice a2 1 c2] 25)).alloc (.cells #[.string ⟨#[97]⟩, .string ⟨#[98]⟩] 9)))) := by
    have h1 : LiesS (w2.heap.size + 1) (w2.alloc (.cells #[.int .i64 2, .string ByteArray.empty, .slice a0 1 c0, .slice a1 0 c1, .string ByteArray.empty, .slice a2 1 c2] 25)) (preS bx (onS 2 libS [bb])) _ :=
      LiesS.wrap (l := ⟨4, ByteArray.empty, [], [], bx⟩) (a0 := none) (a1 := none) (c0 := 0) (c1 := 0) (cap := 1) (nb := w2.heap.size) HS.out (fun k hk => Below.heap_alloc _ _ _ hk) (Nat.le_succ _) (Nat.lt_succ_self _) ⟨by decide, Nat.zero_le _, by decide, Strs.nil _ _ none, Strs.nil _ _ none⟩ (fun i v hv => six_cells w2 rfl _ _ _ _ _ _ i v hv)
    have h2 : LiesS (w2.heap.size + 2) ((w2.alloc (.cells #[.int .i64 2, .string ByteArray.empty, .slice a0 1 c0, .slice a1 0 c1, .string ByteArray.empty, .slice a2 1 c2] 25)).alloc (.cells #[.string ⟨#[97]⟩, .string ⟨#[98]⟩] 9)) (preS bx (onS 2 libS [bb])) _ :=
      LiesS.stay (fun k hk => Below.heap_alloc _ _ _ (by simp; omega)) (Nat.le_succ _) _ _ h1
    have h3 := Strs.lit (w := (w2.alloc (.cells #[.int .i64 2, .string ByteArray.empty, .slice a0 1 c0, .slice a1 0 c1, .string ByteArray.empty, .slice a2 1 c2] 25))) [ba, bb] (by decide) (by decide)
    have h4 := Of_any (w2.heap.size + 2) _ _ [ba, bb] _ 2 _ h2 (h3.stay (Old.refl _ _) (by simp)) (by simp)
    rw [alive_told] at h4
    have e : (w2.alloc (.cells #[.int .i64 2, .string ByteArray.empty, .slice a0 1 c0, .slice a1 0 c1, .string ByteArray.empty, .slice a2 1 c2] 25)).heap.size = w2.heap.size + 1 := by simp
    rw [e] at h4
    exact h4
  go_wp2_with fail
  refine OF.out.mono ?_
  rintro e w3 ⟨hb3, ca, cc, rfl, hp⟩
  have HB3 : Hid (Below w.heap.size w w3) := ((HB2.out.alloc HB2.out.size _).alloc (by have := HB2.out.size; simp; omega) _).trans (hb3.mono (by have := HB2.out.size; simp; omega))
  obtain ⟨b, o, p, rfl, hb, hp0, k0, k1⟩ := hp.at (j := 0) (by decide)
  obtain rfl : p = (bxb, bb) := by simpa using hp0.symm
  simp only [Nat.zero_mul, Nat.add_zero] at k0 k1
  unfold bxb at k0
  unfold bb at k1
  clear hb3 hp hp0 OF HS
  go_wp2_with fail
  go_ret
  exact ⟨rfl, HB3.out⟩
end Go.Proofs.Ytgpcbehohkhoaab
