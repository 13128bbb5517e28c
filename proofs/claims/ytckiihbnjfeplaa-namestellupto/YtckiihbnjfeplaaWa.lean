/- Package names: what is wrong with a set. -/
import Derived.Test.YtckiihbnjfeplaaTc
import Derived.Test.YtckiihbnjfeplaaMa
import Derived.WalkSmall
namespace Go.Proofs.Ytckiihbnjfeplaa
set_option linter.unusedVariables false
set_option linter.unusedSimpArgs false
open Go.RowKit

theorem Strs.at {B : Nat} {w : World} {a : Option Addr} {l : List ByteArray} (h : Strs B w a l) {j : Nat} (hj : j < l.length) :
    ∃ b o s, a = some ⟨b, o, none⟩ ∧ b < B ∧ l[j]? = some s ∧ w.cell? ⟨b, o + j, none⟩ = some (.string s) ∧ s.size ≤ maxLen := by
  obtain ⟨_, h2, h⟩ := h
  rcases h with h | ⟨b, o, ha, hb, h⟩
  · subst h; simp at hj
  · exact ⟨b, o, l[j], ha, hb, List.getElem?_eq_getElem hj, h j _ (List.getElem?_eq_getElem hj), h2 _ (List.getElem_mem hj)⟩

theorem take_all_succ {p : ByteArray → Bool} {l : List ByteArray} {j : Nat} {s : ByteArray} (h : l[j]? = some s) (ha : (l.take j).all p = true) (hs : p s = true) : (l.take (j + 1)).all p = true := by
  rw [List.take_add_one, h]
  simp only [List.all_append, ha, Option.toList, List.all_cons, List.all_nil, hs]
  rfl
theorem take_all_stop {p : ByteArray → Bool} {l : List ByteArray} {j : Nat} {s : ByteArray} (h : l[j]? = some s) (hs : p s = false) : l.all p = false := by
  rw [List.all_eq_false]
  exact ⟨s, List.mem_of_getElem? h, by rw [hs]; simp⟩

set_option maxHeartbeats 800000 in
theorem allNamed_any (B : Nat) (l : List ByteArray) (a : Option Addr) (cap : Nat) (w : World) (h : Strs B w a l) :
    Calls Try.prog 46 #[.slice a l.length cap] w fun e w' => e = .returned (.bool (l.all namedB)) ∧ w' = w := by
  have hl := h.1
  have HS : Hid (Strs B w a l) := h
  clear h
  go_enter Try.func46, Try.ntmps46
  go_wp2_with fail
  go_loop [7] (fun i => ∃ j : Nat, j ≤ l.length ∧ i = .int .i64 j ∧ (l.take j).all namedB = true) (fun i => l.length - (intOf i).toNat)
  case atStart => exact ⟨0, Nat.zero_le _, rfl, rfl⟩
  case round =>
    obtain ⟨j, hj, rfl, ha⟩ := hrel
    have HA : Hid ((l.take j).all namedB = true) := ha
    clear ha
    by_cases hlt : j < l.length
    · obtain ⟨b, o, s, rfl, hb, hs, hc, hz⟩ := HS.out.at hlt
      have HX : Hid (l[j]? = some s) := hs
      have nc := Named_any s hz w
      obtain ⟨d, HD⟩ : ∃ d, Hid (namedB s = d) := ⟨namedB s, (rfl : namedB s = namedB s)⟩
      rw [HD.out] at nc
      have NC : Hid (Calls Try.prog 29 #[.string s] w fun e w' => e = .returned (.bool d) ∧ w' = w) := nc
      clear nc hs
      cases d
      · go_wp2_with fail
        refine NC.out.mono ?_
        rintro e w' ⟨rfl, rfl⟩
        go_wp2_with fail
        go_ret
        exact ⟨retB (take_all_stop HX.out HD.out).symm, rfl⟩
      · go_wp2_with fail
        refine NC.out.mono ?_
        rintro e w' ⟨rfl, rfl⟩
        go_wp2_with fail
        go_round
        case rel => exact ⟨j + 1, by omega, by go_num, take_all_succ HX.out HA.out HD.out⟩
        case measure => simp [intOf]; omega
    · obtain rfl : j = l.length := by omega
      go_wp2_with fail
      go_ret
      refine ⟨retB ?_, rfl⟩
      have := HA.out
      rw [List.take_length] at this
      exact this.symm

/-- A set as a value. -/
abbrev setA (l : Ly) (a0 a1 a2 : Option Addr) (c0 c1 c2 n : Nat) : Value :=
  .agg #[.int .i64 l.kind, .string l.name, .slice a0 l.names.length c0, .slice a1 l.asn.length c1, .string l.pre, .slice a2 n c2]

section
variable (B : Nat) (l : Ly) (a0 a1 a2 : Option Addr) (c0 c1 c2 n : Nat) (w : World)

set_option maxRecDepth 100000 in
set_option maxHeartbeats 1600000 in
theorem wrongAlone_any (h : LiesL B w l a0 a1) (hn : n ≤ 9223372036854775807) (hB : B ≤ w.heap.size) :
    Calls Try.prog 27 #[setA l a0 a1 a2 c0 c1 c2 n] w fun e w' => e = .returned (.int .i64 (aloneS l n)) ∧ Below w.heap.size w w' := by
  have hk := h.kind
  have hl0 := h.names.1
  have hl1 := h.asn.1
  have HL : Hid (LiesL B w l a0 a1) := h
  have HB : Hid (B ≤ w.heap.size) := hB
  clear h hB
  obtain ⟨ld, na, nn, nas, pr⟩ := l
  simp only at hk hl0 hl1
  obtain ⟨r, HR⟩ : ∃ r, Hid (aloneS ⟨ld, na, nn, nas, pr⟩ n = r) := ⟨_, rfl⟩
  rw [HR.out]
  obtain ⟨dp, HDP⟩ : ∃ d, Hid (namedB pr = d) := ⟨namedB pr, (rfl : namedB pr = namedB pr)⟩
  obtain ⟨da, HDA⟩ : ∃ d, Hid (nas.all namedB = d) := ⟨nas.all namedB, (rfl : nas.all namedB = nas.all namedB)⟩
  have NP : Hid (∀ w, Calls Try.prog 29 #[.string pr] w fun e w' => e = .returned (.bool dp) ∧ w' = w) := fun w => by
    have := Named_any pr HL.out.pre w
    rwa [HDP.out] at this
  have NA : Hid (Calls Try.prog 46 #[.slice a1 nas.length c1] (w.alloc (.cells #[.int .i64 ld, .string na, .slice a0 nn.length c0, .slice a1 nas.length c1, .string pr, .slice a2 n c2] 25)) fun e w' => e = .returned (.bool da) ∧ w' = (w.alloc (.cells #[.int .i64 ld, .string na, .slice a0 nn.length c0, .slice a1 nas.length c1, .string pr, .slice a2 n c2] 25))) := by
    have := allNamed_any B nas a1 c1 (w.alloc (.cells #[.int .i64 ld, .string na, .slice a0 nn.length c0, .slice a1 nas.length c1, .string pr, .slice a2 n c2] 25)) (HL.out.asn.stay (fun k hk => ((Below.refl w.heap.size w).alloc (Nat.le_refl _) _).block k (Nat.lt_of_lt_of_le hk HB.out)) (Nat.le_refl _))
    rwa [HDA.out] at this
  by_cases h1 : n = 1
  · subst h1
    by_cases h5 : ld = 5
    · subst h5
      by_cases hm : nas.length = nn.length
      · cases da
        · have H0 : Hid (r = 7) := HR.out.symm.trans (by simp [aloneS, hm, HDA.out])
          have hm1 : nas.length ≤ nn.length := by omega
          have hm2 : nn.length ≤ nas.length := by omega
          clear HR hm
          go_enter Try.func27, Try.ntmps27
          go_wp2_with fail
          refine NA.out.mono ?_
          rintro e w' ⟨rfl, rfl⟩
          go_wp2_with fail
          go_ret
          exact ⟨retI H0.out.symm, (Below.refl _ _).alloc (Nat.le_refl _) _⟩
        · have H0 : Hid (r = 0) := HR.out.symm.trans (by simp [aloneS, hm, HDA.out])
          have hm1 : nas.length ≤ nn.length := by omega
          have hm2 : nn.length ≤ nas.length := by omega
          clear HR hm
          go_enter Try.func27, Try.ntmps27
          go_wp2_with fail
          refine NA.out.mono ?_
          rintro e w' ⟨rfl, rfl⟩
          go_wp2_with fail
          go_ret
          exact ⟨retI H0.out.symm, (Below.refl _ _).alloc (Nat.le_refl _) _⟩
      · have H0 : Hid (r = 5) := HR.out.symm.trans (by simp [aloneS, hm])
        clear HR
        go_enter Try.func27, Try.ntmps27
        go_wp2_with fail
        go_ret
        exact ⟨retI H0.out.symm, (Below.refl _ _).alloc (Nat.le_refl _) _⟩
    · by_cases h4 : ld = 4
      · subst h4
        cases dp
        · have H0 : Hid (r = 7) := HR.out.symm.trans (by simp [aloneS, HDP.out])
          clear HR NA
          go_enter Try.func27, Try.ntmps27
          go_wp2_with fail
          refine (NP.out _).mono ?_
          rintro e w' ⟨rfl, rfl⟩
          go_wp2_with fail
          go_ret
          exact ⟨retI H0.out.symm, (Below.refl _ _).alloc (Nat.le_refl _) _⟩
        · have H0 : Hid (r = 0) := HR.out.symm.trans (by simp [aloneS, HDP.out])
          clear HR NA
          go_enter Try.func27, Try.ntmps27
          go_wp2_with fail
          refine (NP.out _).mono ?_
          rintro e w' ⟨rfl, rfl⟩
          go_wp2_with fail
          go_ret
          exact ⟨retI H0.out.symm, (Below.refl _ _).alloc (Nat.le_refl _) _⟩
      · have H0 : Hid (r = 0) := HR.out.symm.trans (by simp [aloneS, h4, h5])
        clear HR NA NP
        go_enter Try.func27, Try.ntmps27
        go_wp2_with fail
        go_ret
        exact ⟨retI H0.out.symm, (Below.refl _ _).alloc (Nat.le_refl _) _⟩
  · have H0 : Hid (r = 5) := HR.out.symm.trans (by simp [aloneS, h1])
    clear HR NA NP
    go_enter Try.func27, Try.ntmps27
    go_wp2_with fail
    go_ret
    exact ⟨retI H0.out.symm, (Below.refl _ _).alloc (Nat.le_refl _) _⟩
end
end Go.Proofs.Ytckiihbnjfeplaa
