/- The document's own answer: in, Needs; a row of texts that is taken from its front. -/
import Derived.Test.YtilcongilokppadNc
import Derived.Test.YtilcongilokppadGh
namespace Go.Proofs.Ytilcongilokppad
set_option linter.unusedVariables false
set_option linter.unusedSimpArgs false
open Go.RowKit Go.Maps Go.WideMaps

theorem neq_str {a b : ByteArray} (h : ¬ a = b) : (a.toList == b.toList) = false := by
  rw [ByteArray.toList_eq, ByteArray.toList_eq]
  have : a.data.toList ≠ b.data.toList := fun e => h (ba_eq e)
  rw [beq_eq_false_iff_ne]
  exact this

set_option maxRecDepth 100000 in
set_option maxHeartbeats 6400000 in
theorem in_any (l : List ByteArray) (s : ByteArray) (a : Option Addr) (c : Nat) (w : World) (h : Strs w.heap.size w a l) :
    Calls Try.prog 20 #[.slice a l.length c, .string s] w fun e w' => e = .returned (.bool (decide (s ∈ l))) ∧ Below w.heap.size w w' := by
  have hl := h.1
  have HS : Hid (Strs w.heap.size w a l) := h
  clear h
  go_enter Try.func20, Try.ntmps20
  go_wp2_with fail
  go_loopw [9] (fun iv wr => ∃ (j : Nat), j ≤ l.length ∧ iv = .int .i64 j ∧ Hid (s ∉ l.take j) ∧ Hid (Below w.heap.size w wr)) (fun iv _ => l.length - (intOf iv).toNat)
  case atStart => exact ⟨0, Nat.zero_le _, rfl, by show _ ∉ _; simp, Below.refl _ _⟩
  case round =>
    obtain ⟨j, hj, rfl, HN, HR⟩ := hrel
    by_cases hlt : j < l.length
    · obtain ⟨b, o, x, rfl, hb, hx, hc1, hz⟩ := HS.out.at hlt
      have k1 := (HR.out.cell (p := ⟨b, o + j, none⟩) hb).trans hc1
      have HX : Hid (l[j]? = some x) := hx
      clear hx hc1
      by_cases hxs : x = s
      · subst hxs
        have hin : decide (x ∈ l) = true := decide_eq_true (List.mem_of_getElem? HX.out)
        go_wp2_with fail
        go_ret
        exact ⟨by rw [hin]; rfl, HR.out⟩
      · have HN2 : Hid (s ∉ l.take (j + 1)) := by
          show _ ∉ _
          rw [take_put HX.out]
          intro c
          rcases List.mem_append.1 c with q | q
          · exact HN.out q
          · simp at q
            exact hxs q.symm
        have hq := neq_str hxs
        go_wp2_with fail
        go_roundw
        case rel => exact ⟨j + 1, by omega, by go_num, HN2.out, HR.out⟩
        case measure => simp [intOf]; omega
    · obtain rfl : j = l.length := by omega
      have hin : decide (s ∈ l) = false := decide_eq_false (by have := HN.out; rwa [List.take_length] at this)
      go_wp2_with fail
      go_ret
      exact ⟨by rw [hin]; rfl, HR.out⟩

theorem drop_at' {α : Type} {l : List α} {i : Nat} {x : α} (h : l[i]? = some x) : l.drop i = x :: l.drop (i + 1) := by
  obtain ⟨hl, he⟩ := List.getElem?_eq_some_iff.1 h
  rw [List.drop_eq_getElem_cons hl, he]
theorem nee_drop {l : List Nd} {s : ByteArray} : ∀ (j : Nat), (∀ nd ∈ l.take j, nd.name ≠ s) → nee l s = nee (l.drop j) s := by
  induction l with
  | nil => intro j _; simp
  | cons x l ih =>
    intro j h
    cases j with
    | zero => rfl
    | succ j =>
      have hx := h x (by simp)
      show nee (x :: l) s = nee (l.drop j) s
      rw [← ih j fun nd hn => h nd (by simp [hn])]
      unfold nee
      rw [if_neg hx]
      cases l <;> rfl

set_option maxRecDepth 100000 in
set_option maxHeartbeats 6400000 in
theorem Needs_any (B : Nat) (l : List Nd) (s : ByteArray) (a : Option Addr) (c : Nat) (w : World) (h : Nds B w a l) (hB : B ≤ w.heap.size) :
    Calls Try.prog 19 #[.slice a l.length c, .string s] w fun e w' => Below w.heap.size w w' ∧ ∃ (na : Option Addr) (nc : Nat) (ok : Bool), e = .returned (.tuple #[.slice na (nee l s).length nc, .bool ok]) ∧ Strs B w na (nee l s) ∧ (ok = true ↔ ∃ nd ∈ l, nd.name = s) := by
  have hl := h.1
  have HH : Hid (Nds B w a l ∧ B ≤ w.heap.size) := ⟨h, hB⟩
  clear h hB
  go_enter Try.func19, Try.ntmps19
  go_wp2_with fail
  go_loopw [10] (fun iv wr => ∃ (j : Nat), j ≤ l.length ∧ iv = .int .i64 j ∧ Hid (∀ nd ∈ l.take j, nd.name ≠ s) ∧ Hid (Below w.heap.size w wr)) (fun iv _ => l.length - (intOf iv).toNat)
  case atStart => exact ⟨0, Nat.zero_le _, rfl, by show ∀ nd ∈ _, _; simp, Below.refl _ _⟩
  case round =>
    obtain ⟨j, hj, rfl, HN, HR⟩ := hrel
    by_cases hlt : j < l.length
    · obtain ⟨b, o, nd, na, nc, rfl, hbB, hnd, hc1, hc2, hst, hz, hz2⟩ := HH.out.1.at hlt
      have hbw : b < w.heap.size := Nat.lt_of_lt_of_le hbB HH.out.2
      have k1 := (HR.out.cell (p := ⟨b, o + j * 2, none⟩) hbw).trans hc1
      have k2 := (HR.out.cell (p := ⟨b, o + j * 2 + 1, none⟩) hbw).trans hc2
      have HX : Hid (l[j]? = some nd ∧ Strs B w na nd.needs) := ⟨hnd, hst⟩
      have HB2 : Hid (Below w.heap.size w (wr.alloc (.cells #[.string nd.name, .slice na nd.needs.length nc] 32))) := HR.out.alloc HR.out.size _
      clear hnd hc1 hc2 hst
      by_cases hxs : nd.name = s
      · have hne : nee l s = nd.needs := by
          rw [nee_drop j HN.out, drop_at' HX.out.1]
          unfold nee
          rw [if_pos hxs]
        subst hxs
        go_wp2_with fail
        go_ret2
        exact ⟨HB2.out, na, nc, true, by rw [hne]; rfl, by rw [hne]; exact HX.out.2, by simp; exact ⟨nd, List.mem_of_getElem? HX.out.1, rfl⟩⟩
      · have HN2 : Hid (∀ nd ∈ l.take (j + 1), nd.name ≠ s) := by
          show ∀ nd ∈ _, _
          rw [take_put HX.out.1]
          intro m hm
          rcases List.mem_append.1 hm with q | q
          · exact HN.out m q
          · simp at q
            subst q
            exact hxs
        have hq := neq_str hxs
        go_wp2_with fail
        go_roundw
        case rel => exact ⟨j + 1, by omega, by go_num, HN2.out, HB2.out⟩
        case measure => simp [intOf]; omega
    · obtain rfl : j = l.length := by omega
      have hno : ∀ nd ∈ l, nd.name ≠ s := by have := HN.out; rwa [List.take_length] at this
      have hne : nee l s = [] := nee_none hno
      go_wp2_with fail
      go_ret2
      exact ⟨HR.out, none, 0, false, by rw [hne]; rfl, by rw [hne]; exact Strs.nil _ _ _, by simp; exact hno⟩

/-- A row of texts of one's own, taken from its front. -/
def Win (B : Nat) (v : Value) (l : List ByteArray) (w : World) : Prop :=
  ∃ g o cap cur, v = .slice (some ⟨g, o, none⟩) l.length cap ∧ B ≤ g ∧ w.heap[g]? = some (.cells cur 9 (0, 0)) ∧ l.length ≤ cap ∧ cap ≤ maxLen ∧ o + cap ≤ cur.size ∧ ∀ (i : Nat) (s : ByteArray), l[i]? = some s → cur[o + i]? = some (.string s)
def blockOf : Value → Option Nat
  | .slice (some a) _ _ => some a.block
  | _ => none
theorem Win.kept {B : Nat} {v : Value} {l : List ByteArray} {w w' : World} (h : Win B v l w) (hk : ∀ k, blockOf v = some k → w'.heap[k]? = w.heap[k]?) : Win B v l w' := by
  obtain ⟨g, o, cap, cur, rfl, h1, h2, rest⟩ := h
  exact ⟨g, o, cap, cur, rfl, h1, (hk g rfl).trans h2, rest⟩
theorem Win.lt {B : Nat} {v : Value} {l : List ByteArray} {w : World} (h : Win B v l w) {k : Nat} (hk : blockOf v = some k) : B ≤ k ∧ k < w.heap.size := by
  obtain ⟨g, o, cap, cur, rfl, h1, h2, rest⟩ := h
  simp [blockOf] at hk
  subst hk
  exact ⟨h1, (Array.getElem?_eq_some_iff.1 h2).1⟩
theorem Win.below {B : Nat} {v : Value} {l : List ByteArray} {w w' : World} (h : Win B v l w) (hb : Below w.heap.size w w') : Win B v l w' := h.kept fun k hk => hb.block k (h.lt hk).2
end Go.Proofs.Ytilcongilokppad
