/- Plain mathematics: the document's own order, by names. -/
import Derived.Test.YtilcongilokppadGh
namespace Go.Proofs.Ytilcongilokppad
set_option linter.unusedVariables false
set_option linter.unusedSimpArgs false

def NN (l : List Nd) (S : List ByteArray) (i : Nat) : List Nat := (nee l (S.getD i ByteArray.empty)).filterMap (plc S)
def May (l : List Nd) (out : List ByteArray) (s : ByteArray) : Prop := s ∉ out ∧ ∀ m ∈ nee l s, m ∈ out
def Gre (l : List Nd) (S out : List ByteArray) : Prop := ∃ o, Greedy l.length (NN l S) o ∧ out = o.map (fun i => S.getD i ByteArray.empty)
/-- All that is needed is there. -/
def Full (l : List Nd) (S : List ByteArray) : Prop := ∀ s ∈ S, ∀ m ∈ nee l s, m ∈ S

section
variable {l : List Nd} {S out : List ByteArray}
theorem getD_of {i : Nat} {s : ByteArray} (h : S[i]? = some s) : S.getD i ByteArray.empty = s := by simp [List.getD_eq_getElem?_getD, h]
theorem NN_isN (hr : Ranks l S) : IsN l S (NN l S) := by
  intro nd hn i hi
  unfold NN
  rw [getD_of (plc_some hi).2, nee_at (hr.perm.nodup_iff.1 hr.nodup) hn]
theorem Full.no (hr : Ranks l S) (h : Full l S) : ∀ nd ∈ l, ¬ Lacks S nd := by
  rintro nd hn ⟨s, hs, hp⟩
  refine plc_none.1 hp (h nd.name (hr.perm.mem_iff.2 (List.mem_map.2 ⟨nd, hn, rfl⟩)) s ?_)
  rw [nee_at (hr.perm.nodup_iff.1 hr.nodup) hn]
  exact hs
theorem mem_out (hr : Ranks l S) {o : List Nat} (ho : out = o.map (fun i => S.getD i ByteArray.empty)) (hlt : ∀ x ∈ o, x < l.length) {i : Nat} {s : ByteArray} (hi : S[i]? = some s) : s ∈ out ↔ i ∈ o := by
  rw [ho]
  constructor
  · intro h
    obtain ⟨j, hj, e⟩ := List.mem_map.1 h
    have hjl : j < S.length := by rw [hr.len]; exact hlt j hj
    have hSj : S[j]? = some s := by
      rw [List.getElem?_eq_getElem hjl, ← e]
      simp [List.getD_eq_getElem?_getD, hjl]
    rw [rank_unique hr hi hSj]
    exact hj
  · intro h
    exact List.mem_map.2 ⟨i, h, getD_of hi⟩
theorem may_iff (hr : Ranks l S) (hf : Full l S) {o : List Nat} (ho : out = o.map (fun i => S.getD i ByteArray.empty)) (hlt : ∀ x ∈ o, x < l.length) {i : Nat} {s : ByteArray} (hi : S[i]? = some s) :
    May l out s ↔ i ∉ o ∧ ∀ j ∈ NN l S i, j ∈ o := by
  unfold May
  rw [mem_out hr ho hlt hi]
  refine and_congr Iff.rfl ⟨fun h j hj => ?_, fun h m hm => ?_⟩
  · unfold NN at hj
    rw [getD_of hi] at hj
    obtain ⟨m, hm, hp⟩ := List.mem_filterMap.1 hj
    exact (mem_out hr ho hlt (plc_some hp).2).1 (h m hm)
  · obtain ⟨j, hj⟩ := plc_mem.1 (hf s (List.mem_of_getElem? hi) m hm)
    refine (mem_out hr ho hlt (plc_some hj).2).2 (h j ?_)
    unfold NN
    rw [getD_of hi]
    exact List.mem_filterMap.2 ⟨m, hm, hj⟩
theorem Gre.nil (l : List Nd) (S : List ByteArray) : Gre l S [] := ⟨[], fun t x h => by simp at h, rfl⟩
theorem Gre.snoc (hr : Ranks l S) (hf : Full l S) (h : Gre l S out) {i : Nat} {s : ByteArray} (hi : S[i]? = some s) (hm : May l out s) (hl : ∀ x ∈ S.take i, ¬ May l out x) : Gre l S (out ++ [s]) := by
  obtain ⟨o, hg, ho⟩ := h
  obtain ⟨m1, m2⟩ := (may_iff hr hf ho hg.lt hi).1 hm
  have hil : i < l.length := hr.len ▸ (List.getElem?_eq_some_iff.1 hi).1
  refine ⟨o ++ [i], hg.snoc hil m1 m2 fun y hy y1 y2 => ?_, by rw [ho, List.map_append]; simp only [List.map_cons, List.map_nil, getD_of hi]⟩
  refine Classical.byContradiction fun c => ?_
  have hSy : S[y]? = some (S[y]'(by rw [hr.len]; exact hy)) := List.getElem?_eq_getElem _
  refine hl _ ?_ ((may_iff hr hf ho hg.lt hSy).2 ⟨y1, y2⟩)
  rw [List.mem_iff_getElem?]
  exact ⟨y, by rw [List.getElem?_take, if_pos (by omega)]; exact hSy⟩
theorem Gre.len (hr : Ranks l S) (h : Gre l S out) : out.length ≤ l.length := by
  obtain ⟨o, hg, ho⟩ := h
  rw [ho, List.length_map]
  exact hg.len_le
theorem Gre.more (hr : Ranks l S) (hf : Full l S) (hring : ∀ s ∈ S, ¬ RchB l s s) (h : Gre l S out) (hlen : out.length < l.length) : ∃ s ∈ S, May l out s := by
  obtain ⟨o, hg, ho⟩ := h
  refine Classical.byContradiction fun c => ?_
  have hlen' : o.length < l.length := by rw [ho, List.length_map] at hlen; exact hlen
  have hN : ∀ k, k < l.length → ∀ m ∈ NN l S k, m < l.length := fun k _ m hm => hr.len ▸ filterMap_lt m hm
  have hrest : ∀ k, k < l.length → k ∉ o → ∃ m ∈ NN l S k, m ∉ o := by
    intro k hk hko
    refine Classical.byContradiction fun d => c ?_
    have hSk : S[k]? = some (S[k]'(by rw [hr.len]; exact hk)) := List.getElem?_eq_getElem _
    refine ⟨_, List.mem_of_getElem? hSk, (may_iff hr hf ho hg.lt hSk).2 ⟨hko, fun j hj => Classical.byContradiction fun e => d ⟨j, hj, e⟩⟩⟩
  have hno : ∀ k, k < l.length → ¬ Rch (NN l S) k k := by
    intro k hk hc
    have hSk : S[k]? = some (S[k]'(by rw [hr.len]; exact hk)) := List.getElem?_eq_getElem _
    exact hring _ (List.mem_of_getElem? hSk) ((rch_iff hr (hf.no hr) (NN_isN hr) hSk).1 hc)
  have hall := no_ring hN hno (fun k => k ∉ o) hrest
  have := nodup_len (List.range l.length) o List.nodup_range fun x hx => Classical.byContradiction (hall x (List.mem_range.1 hx))
  simp at this
  omega
theorem Gre.tells (hr : Ranks l S) (hf : Full l S) (h : Gre l S out) (hlen : out.length = l.length) : Tells l out ByteArray.empty 0 := by
  obtain ⟨o, hg, ho⟩ := h
  exact .ok S (NN l S) o out hr (hf.no hr) (NN_isN hr) hg (by rw [ho, List.length_map] at hlen; exact hlen) ho
theorem tells_none (hr : Ranks l S) {i : Nat} {s m : ByteArray} (hi : S[i]? = some s) (hm : m ∈ nee l s) (hn : m ∉ S) (hl : ∀ x ∈ S.take i, ∀ m ∈ nee l x, m ∈ S) : Tells l [] s 6 := by
  have hnd := hr.perm.nodup_iff.1 hr.nodup
  obtain ⟨nd, h1, rfl⟩ := List.mem_map.1 (hr.perm.mem_iff.1 (List.mem_of_getElem? hi))
  refine .none S i nd hr h1 (plc_at hr.nodup hi) ⟨m, by rw [nee_at hnd h1] at hm; exact hm, plc_none.2 hn⟩ fun x hx k hk ⟨y, hy, hyn⟩ => ?_
  refine Classical.byContradiction fun c => plc_none.1 hyn (hl x.name ?_ y (by rw [nee_at hnd hx]; exact hy))
  rw [List.mem_iff_getElem?]
  exact ⟨k, by rw [List.getElem?_take, if_pos (by omega)]; exact (plc_some hk).2⟩
theorem tells_cycle (hr : Ranks l S) (hf : Full l S) {i : Nat} {s : ByteArray} (hi : S[i]? = some s) (hc : RchB l s s) (hl : ∀ x ∈ S.take i, ¬ RchB l x x) : Tells l [] s 9 := by
  have hN := NN_isN hr
  refine .cycle S (NN l S) i s hr (hf.no hr) hN (hr.len ▸ (List.getElem?_eq_some_iff.1 hi).1) ((rch_iff hr (hf.no hr) hN hi).2 hc) (fun k hk hkk => ?_) hi
  have hSk : S[k]? = some (S[k]'(by rw [hr.len]; exact hk)) := List.getElem?_eq_getElem _
  refine Classical.byContradiction fun c => hl _ ?_ ((rch_iff hr (hf.no hr) hN hSk).1 hkk)
  rw [List.mem_iff_getElem?]
  exact ⟨k, by rw [List.getElem?_take, if_pos (by omega)]; exact hSk⟩
/-- Two that tell, tell the same. -/
theorem Tells.who {l : List Nd} {o o' : List ByteArray} {w w' : ByteArray} {e e' : Int} (a : Tells l o w e) (b : Tells l o' w' e') : e = e' ∧ o = o' ∧ w = w' := by
  obtain ⟨h1, h2, h3⟩ := a.same (Alike.refl l) b
  refine ⟨h1, h2, ?_⟩
  rcases h3 with q | q
  · exact q
  · subst q
    subst h1
    cases a with
    | fit x hx =>
      cases b with
      | fit y hy =>
        rw [hx] at hy
        simpa using hy
end
end Go.Proofs.Ytilcongilokppad
