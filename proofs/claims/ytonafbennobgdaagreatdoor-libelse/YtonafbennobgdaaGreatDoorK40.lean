/- Chapter 3's laws: data read, made, appended. -/
import Derived.Deep.AppendLies
import Derived.Deep.CutRange
import Derived.Test.YtonafbennobgdaaGreatDoorK39
import Derived.Test.YtonafbennobgdaaGreatDoorK02
import Derived.Test.YtonafbennobgdaaGreatDoorK36
namespace Go.Proofs.YtonafbennobgdaaGreatDoor
set_option linter.unusedVariables false
set_option linter.unusedSimpArgs false
open Go.RowKit

theorem pick_list {α : Type} (p : Nat → α → Prop) : ∀ (n : Nat), (∀ i, i < n → ∃ x, p i x) → ∃ l : List α, l.length = n ∧ ∀ i x, l[i]? = some x → p i x
  | 0, _ => ⟨[], rfl, by simp⟩
  | n + 1, h => by
    obtain ⟨l, hl, hp⟩ := pick_list p n (fun i hi => h i (by omega))
    obtain ⟨x, hx⟩ := h n (by omega)
    refine ⟨l ++ [x], by simp [hl], ?_⟩
    intro i y hy
    by_cases hi : i < n
    · rw [List.getElem?_append_left (by omega)] at hy
      exact hp i y hy
    · have hlen := (List.getElem?_eq_some_iff.1 hy).1
      simp at hlen
      obtain rfl : i = n := by omega
      rw [List.getElem?_append_right (by omega)] at hy
      simp [hl] at hy
      subst hy
      exact hx

def Dn (w : World) (f : Nat) (a : Option Addr) (ds : List Dat) : Prop := Dc (fun b => b < w.heap.size) w f a ds
theorem Dn.lift {w w' : World} {f : Nat} {a : Option Addr} {ds : List Dat} (h : Dn w f a ds) (hb : Below w.heap.size w w') : Dn w' f a ds :=
  Dc.stay (fun k hk => hb.block k hk) (fun k hk => Nat.lt_of_lt_of_le hk hb.size) f a ds h
theorem Dn.of {w0 w : World} {f : Nat} {a : Option Addr} {ds : List Dat} (h : Dc (New w0 w) w f a ds) : Dn w f a ds := Dc.stay (fun _ _ => rfl) (fun k hk => hk.2) f a ds h
theorem Dn.at {w : World} {f : Nat} {a : Option Addr} {ds : List Dat} (h : Dn w f a ds) (h0 : ds ≠ []) : ∃ f' b o, f = f' + 1 ∧ a = some ⟨b, o, none⟩ ∧ b < w.heap.size ∧ ∀ (i : Nat) (d : Dat), ds[i]? = some d → ∃ a' cap,
      w.cell? ⟨b, o + i * 6, none⟩ = some (.int .i64 d.kind) ∧ w.cell? ⟨b, o + i * 6 + 1, none⟩ = some (.int .i64 d.n) ∧ w.cell? ⟨b, o + i * 6 + 2, none⟩ = some (.string d.name) ∧
      w.cell? ⟨b, o + i * 6 + 3, none⟩ = some (.int .i64 d.stamp) ∧ w.cell? ⟨b, o + i * 6 + 4, none⟩ = some (.int .i64 d.lib) ∧ w.cell? ⟨b, o + i * 6 + 5, none⟩ = some (.slice a' d.kids.length cap) ∧
      d.name.size ≤ maxLen ∧ d.kids.length ≤ cap ∧ Dn w f' a' d.kids := by
  cases f with
  | zero => exact absurd h h0
  | succ f =>
    obtain ⟨_, h | ⟨b, o, h1, h2, h3⟩⟩ := h
    · exact absurd h h0
    · exact ⟨f, b, o, rfl, h1, h2, h3⟩

structure RowD (B : Nat) (v : Value) (es : List (Dat × Option Addr × Nat)) (w : World) : Prop where
  own : w.ownsRow B 26 6 v es.length (flat es)
  kids : ∀ e ∈ es, e.1.name.size ≤ maxLen ∧ e.1.kids.length ≤ e.2.2 ∧ ∃ f, Dc (fun b => b < w.heap.size ∧ some b ≠ v.ownBlock) w f e.2.1 e.1.kids
theorem RowD.below {B : Nat} {v : Value} {es : List (Dat × Option Addr × Nat)} {w w' : World} (h : RowD B v es w) (hk : Below w.heap.size w w') : RowD B v es w' := by
  refine ⟨h.own.kept (row := none) ⟨hk.os, hk.tape, hk.output, hk.size, fun k h1 _ => hk.block k h1⟩ (by cases hv : v.ownBlock <;> simp), fun e he => ?_⟩
  obtain ⟨hn, hc, f, hd⟩ := h.kids e he
  exact ⟨hn, hc, f, Dc.stay (fun k hk2 => hk.block k hk2.1) (fun k hk2 => ⟨Nat.lt_of_lt_of_le hk2.1 hk.size, hk2.2⟩) f _ _ hd⟩
theorem RowD.more {B : Nat} {v v' : Value} {es fs : List (Dat × Option Addr × Nat)} {w w1 w' : World} (h : RowD B v es w) (hb : Below w.heap.size w w1)
    (hd : ∀ e ∈ fs, e.1.name.size ≤ maxLen ∧ e.1.kids.length ≤ e.2.2 ∧ ∃ f, Dc (fun b => b < w1.heap.size ∧ some b ≠ v.ownBlock) w1 f e.2.1 e.1.kids)
    (hown : w'.ownsRow B 26 6 v' (es.length + fs.length) (flat es ++ flat fs))
    (hg : w1.grownBy w' v.ownBlock) (hw : v'.ownBlock = v.ownBlock ∨ v'.ownBlock = some w1.heap.size) : RowD B v' (es ++ fs) w' := by
  have hnew : ∀ k, k < w1.heap.size → some k ≠ v.ownBlock → some k ≠ v'.ownBlock := by
    intro k hk hne
    rcases hw with e | e
    · rw [e]; exact hne
    · rw [e]
      intro e2
      have := Option.some.inj e2
      omega
  refine ⟨?_, fun e he => ?_⟩
  · rw [show flat (es ++ fs) = flat es ++ flat fs by simp [flat], List.length_append]
    exact hown
  · rcases List.mem_append.1 he with he | he
    · obtain ⟨hn, hc, f, hd⟩ := (h.below hb).kids e he
      exact ⟨hn, hc, f, Dc.stay (fun k hk => hg.block k hk.1 hk.2) (fun k hk => ⟨Nat.lt_of_lt_of_le hk.1 hg.size, hnew k hk.1 hk.2⟩) f _ _ hd⟩
    · obtain ⟨hn, hc, f, hd⟩ := hd e he
      exact ⟨hn, hc, f, Dc.stay (fun k hk => hg.block k hk.1 hk.2) (fun k hk => ⟨Nat.lt_of_lt_of_le hk.1 hg.size, hnew k hk.1 hk.2⟩) f _ _ hd⟩

theorem RowD.lie {B : Nat} {v : Value} {es : List (Dat × Option Addr × Nat)} {w : World} (h : RowD B v es w) (hlen : es.length ≤ 9223372036854775807) : ∃ a cap f, v = .slice a (es.map (·.1)).length cap ∧ (es.map (·.1)).length ≤ cap ∧ Dc (fun b => b < w.heap.size) w f a (es.map (·.1)) := by
  -- one depth for all
  have hfuel : ∃ F, ∀ e ∈ es, Dc (fun b => b < w.heap.size) w F e.2.1 e.1.kids := by
    have aux : ∀ (l : List (Dat × Option Addr × Nat)), (∀ e ∈ l, ∃ f, Dc (fun b => b < w.heap.size) w f e.2.1 e.1.kids) → ∃ F, ∀ e ∈ l, Dc (fun b => b < w.heap.size) w F e.2.1 e.1.kids := by
      intro l
      induction l with
      | nil => exact fun _ => ⟨0, by simp⟩
      | cons x r ih =>
        intro hx
        obtain ⟨F, hF⟩ := ih (fun e he => hx e (List.mem_cons_of_mem _ he))
        obtain ⟨f, hf⟩ := hx x (by simp)
        refine ⟨f + F, fun e he => ?_⟩
        rcases List.mem_cons.1 he with rfl | he
        · exact hf.upto F
        · have := (hF e he).upto f
          rwa [Nat.add_comm] at this
    refine aux es (fun e he => ?_)
    obtain ⟨_, _, f, hd⟩ := h.kids e he
    exact ⟨f, Dc.stay (fun _ _ => rfl) (fun k hk => hk.1) f _ _ hd⟩
  obtain ⟨F, hF⟩ := hfuel
  rcases h.own.2 with ⟨rfl, h0⟩ | ⟨g, cap, cur, rfl, hbg, hg, hnc, hcm, hcs, htake⟩
  · have : es = [] := List.length_eq_zero_iff.1 h0
    subst this
    exact ⟨none, 0, 0, rfl, Nat.le_refl _, rfl⟩
  · refine ⟨some ⟨g, 0, none⟩, cap, F + 1, by simp, by simpa using hnc, ?_⟩
    refine ⟨by simp; exact hlen, ?_⟩
    refine Or.inr ⟨g, 0, rfl, (Array.getElem?_eq_some_iff.1 hg).1, ?_⟩
    intro i d hd
    rw [List.getElem?_map] at hd
    obtain ⟨e, he, rfl⟩ := Option.map_eq_some_iff.1 hd
    have hmem : e ∈ es := List.mem_of_getElem? he
    have hcell : ∀ j u, (flat es)[j]? = some u → w.cell? ⟨g, j, none⟩ = some u := by
      intro j u hu
      have := h.own.cells (g := g) rfl j u hu
      have hadd : (⟨g, 0, none⟩ : Addr).add j = ⟨g, j, none⟩ := by unfold Addr.add; split <;> simp_all
      rwa [hadd] at this
    have hflat : ∀ k, k < 6 → (flat es)[i * 6 + k]? = [Value.int .i64 e.1.kind, .int .i64 e.1.n, .string e.1.name, .int .i64 e.1.stamp, .int .i64 e.1.lib, .slice e.2.1 e.1.kids.length e.2.2][k]? := by
      have aux : ∀ (l : List (Dat × Option Addr × Nat)) (i : Nat), l[i]? = some e → ∀ k, k < 6 → (flat l)[i * 6 + k]? = [Value.int .i64 e.1.kind, .int .i64 e.1.n, .string e.1.name, .int .i64 e.1.stamp, .int .i64 e.1.lib, .slice e.2.1 e.1.kids.length e.2.2][k]? := by
        intro l
        induction l with
        | nil => intro i hi; simp at hi
        | cons x r ih =>
          intro i hi k hk
          have e1 : flat (x :: r) = [Value.int .i64 x.1.kind, .int .i64 x.1.n, .string x.1.name, .int .i64 x.1.stamp, .int .i64 x.1.lib, .slice x.2.1 x.1.kids.length x.2.2] ++ flat r := by simp [flat]
          rw [e1]
          cases i with
          | zero =>
            simp at hi
            subst hi
            rw [List.getElem?_append_left (by simp; omega)]
            simp
          | succ i =>
            rw [List.getElem?_append_right (by simp; omega)]
            have := ih i (by simpa using hi) k hk
            rw [← this]
            congr 1
            simp
            omega
      exact aux es i he
    refine ⟨e.2.1, e.2.2, ?_, ?_, ?_, ?_, ?_, ?_, (h.kids e hmem).1, (h.kids e hmem).2.1, hF e hmem⟩
    all_goals rw [Nat.zero_add]
    · exact hcell _ _ (hflat 0 (by decide))
    · exact hcell _ _ (hflat 1 (by decide))
    · exact hcell _ _ (hflat 2 (by decide))
    · exact hcell _ _ (hflat 3 (by decide))
    · exact hcell _ _ (hflat 4 (by decide))
    · exact hcell _ _ (hflat 5 (by decide))


theorem RowD.lieG {B : Nat} {v : Value} {es : List (Dat × Option Addr × Nat)} {w : World} (h : RowD B v es w) (hlen : es.length ≤ 9223372036854775807) (ok : Nat → Prop) (hgo : ∀ g, v.ownBlock = some g → ok g) (hko : ∀ e ∈ es, ∃ f, Dc ok w f e.2.1 e.1.kids) : ∃ a cap f, v = .slice a (es.map (·.1)).length cap ∧ (es.map (·.1)).length ≤ cap ∧ Dc ok w f a (es.map (·.1)) := by
  -- one depth for all
  have hfuel : ∃ F, ∀ e ∈ es, Dc ok w F e.2.1 e.1.kids := by
    have aux : ∀ (l : List (Dat × Option Addr × Nat)), (∀ e ∈ l, ∃ f, Dc ok w f e.2.1 e.1.kids) → ∃ F, ∀ e ∈ l, Dc ok w F e.2.1 e.1.kids := by
      intro l
      induction l with
      | nil => exact fun _ => ⟨0, by simp⟩
      | cons x r ih =>
        intro hx
        obtain ⟨F, hF⟩ := ih (fun e he => hx e (List.mem_cons_of_mem _ he))
        obtain ⟨f, hf⟩ := hx x (by simp)
        refine ⟨f + F, fun e he => ?_⟩
        rcases List.mem_cons.1 he with rfl | he
        · exact hf.upto F
        · have := (hF e he).upto f
          rwa [Nat.add_comm] at this
    exact aux es hko
  obtain ⟨F, hF⟩ := hfuel
  rcases h.own.2 with ⟨rfl, h0⟩ | ⟨g, cap, cur, rfl, hbg, hg, hnc, hcm, hcs, htake⟩
  · have : es = [] := List.length_eq_zero_iff.1 h0
    subst this
    exact ⟨none, 0, 0, rfl, Nat.le_refl _, rfl⟩
  · refine ⟨some ⟨g, 0, none⟩, cap, F + 1, by simp, by simpa using hnc, ?_⟩
    refine ⟨by simp; exact hlen, ?_⟩
    refine Or.inr ⟨g, 0, rfl, hgo g rfl, ?_⟩
    intro i d hd
    rw [List.getElem?_map] at hd
    obtain ⟨e, he, rfl⟩ := Option.map_eq_some_iff.1 hd
    have hmem : e ∈ es := List.mem_of_getElem? he
    have hcell : ∀ j u, (flat es)[j]? = some u → w.cell? ⟨g, j, none⟩ = some u := by
      intro j u hu
      have := h.own.cells (g := g) rfl j u hu
      have hadd : (⟨g, 0, none⟩ : Addr).add j = ⟨g, j, none⟩ := by unfold Addr.add; split <;> simp_all
      rwa [hadd] at this
    have hflat : ∀ k, k < 6 → (flat es)[i * 6 + k]? = [Value.int .i64 e.1.kind, .int .i64 e.1.n, .string e.1.name, .int .i64 e.1.stamp, .int .i64 e.1.lib, .slice e.2.1 e.1.kids.length e.2.2][k]? := by
      have aux : ∀ (l : List (Dat × Option Addr × Nat)) (i : Nat), l[i]? = some e → ∀ k, k < 6 → (flat l)[i * 6 + k]? = [Value.int .i64 e.1.kind, .int .i64 e.1.n, .string e.1.name, .int .i64 e.1.stamp, .int .i64 e.1.lib, .slice e.2.1 e.1.kids.length e.2.2][k]? := by
        intro l
        induction l with
        | nil => intro i hi; simp at hi
        | cons x r ih =>
          intro i hi k hk
          have e1 : flat (x :: r) = [Value.int .i64 x.1.kind, .int .i64 x.1.n, .string x.1.name, .int .i64 x.1.stamp, .int .i64 x.1.lib, .slice x.2.1 x.1.kids.length x.2.2] ++ flat r := by simp [flat]
          rw [e1]
          cases i with
          | zero =>
            simp at hi
            subst hi
            rw [List.getElem?_append_left (by simp; omega)]
            simp
          | succ i =>
            rw [List.getElem?_append_right (by simp; omega)]
            have := ih i (by simpa using hi) k hk
            rw [← this]
            congr 1
            simp
            omega
      exact aux es i he
    refine ⟨e.2.1, e.2.2, ?_, ?_, ?_, ?_, ?_, ?_, (h.kids e hmem).1, (h.kids e hmem).2.1, hF e hmem⟩
    all_goals rw [Nat.zero_add]
    · exact hcell _ _ (hflat 0 (by decide))
    · exact hcell _ _ (hflat 1 (by decide))
    · exact hcell _ _ (hflat 2 (by decide))
    · exact hcell _ _ (hflat 3 (by decide))
    · exact hcell _ _ (hflat 4 (by decide))
    · exact hcell _ _ (hflat 5 (by decide))


theorem flat_atD (e : Dat × Option Addr × Nat) : ∀ (l : List (Dat × Option Addr × Nat)) (i : Nat), l[i]? = some e → ∀ k, k < 6 → (flat l)[i * 6 + k]? = [Value.int .i64 e.1.kind, .int .i64 e.1.n, .string e.1.name, .int .i64 e.1.stamp, .int .i64 e.1.lib, .slice e.2.1 e.1.kids.length e.2.2][k]? := by
  intro l
  induction l with
  | nil => intro i hi; simp at hi
  | cons x r ih =>
    intro i hi k hk
    have e1 : flat (x :: r) = [Value.int .i64 x.1.kind, .int .i64 x.1.n, .string x.1.name, .int .i64 x.1.stamp, .int .i64 x.1.lib, .slice x.2.1 x.1.kids.length x.2.2] ++ flat r := by simp [flat]
    rw [e1]
    cases i with
    | zero =>
      simp at hi
      subst hi
      rw [List.getElem?_append_left (by simp; omega)]
      simp
    | succ i =>
      rw [List.getElem?_append_right (by simp; omega)]
      have := ih i (by simpa using hi) k hk
      rw [show (i + 1) * 6 + k - [Value.int .i64 x.1.kind, .int .i64 x.1.n, .string x.1.name, .int .i64 x.1.stamp, .int .i64 x.1.lib, .slice x.2.1 x.1.kids.length x.2.2].length = i * 6 + k by simp; omega]
      exact this

theorem Dn.ents {w : World} {f : Nat} {a : Option Addr} {l : List Dat} (h : Dn w f a l) (h0 : l ≠ []) : ∃ f' b o es, a = some ⟨b, o, none⟩ ∧ b < w.heap.size ∧ es.map (·.1) = l ∧ (∀ j u, (flat es)[j]? = some u → w.cell? ⟨b, o + j, none⟩ = some u) ∧ ∀ e ∈ es, e.1.name.size ≤ maxLen ∧ e.1.kids.length ≤ e.2.2 ∧ Dn w f' e.2.1 e.1.kids := by
  obtain ⟨f', b, o, rfl, rfl, hb, hall⟩ := h.at h0
  obtain ⟨es, hl, hes⟩ := pick_list (α := Dat × Option Addr × Nat) (fun i e => l[i]? = some e.1 ∧ (∀ k, k < 6 → w.cell? ⟨b, o + i * 6 + k, none⟩ = [Value.int .i64 e.1.kind, .int .i64 e.1.n, .string e.1.name, .int .i64 e.1.stamp, .int .i64 e.1.lib, .slice e.2.1 e.1.kids.length e.2.2][k]?) ∧ e.1.name.size ≤ maxLen ∧ e.1.kids.length ≤ e.2.2 ∧ Dn w f' e.2.1 e.1.kids) l.length (fun i hi => by
    obtain ⟨a', cap, k0, k1, k2, k3, k4, k5, hn, hc, hk⟩ := hall i l[i] (List.getElem?_eq_getElem hi)
    refine ⟨(l[i], a', cap), List.getElem?_eq_getElem hi, ?_, hn, hc, hk⟩
    intro k hk
    match k, hk with
    | 0, _ => simpa using k0
    | 1, _ => simpa using k1
    | 2, _ => simpa using k2
    | 3, _ => simpa using k3
    | 4, _ => simpa using k4
    | 5, _ => simpa using k5)
  refine ⟨f', b, o, es, rfl, hb, ?_, ?_, ?_⟩
  · apply List.ext_getElem?
    intro i
    rw [List.getElem?_map]
    cases he : es[i]? with
    | none =>
      have : l.length ≤ i := by rw [← hl]; exact List.getElem?_eq_none_iff.1 he
      rw [List.getElem?_eq_none this]
      rfl
    | some e => exact (hes i e he).1.symm
  · intro j u hu
    have hj : j < es.length * 6 := by
      have := (List.getElem?_eq_some_iff.1 hu).1
      rwa [flat_len] at this
    have hi : j / 6 < es.length := by omega
    have he := hes (j / 6) es[j / 6] (List.getElem?_eq_getElem hi)
    have hk := he.2.1 (j % 6) (by omega)
    have hf := flat_atD es[j / 6] es (j / 6) (List.getElem?_eq_getElem hi) (j % 6) (by omega)
    rw [show j / 6 * 6 + j % 6 = j by omega, hu] at hf
    rw [show o + j / 6 * 6 + j % 6 = o + j by omega, ← hf] at hk
    exact hk
  · intro e he
    obtain ⟨i, hi⟩ := List.getElem?_of_mem he
    exact (hes i e hi).2.2

def ToldO (d : Dat) (w : World) (e : Ending) (w' : World) : Prop :=
  Below w.heap.size w w' ∧ ∃ a cap f, e = .returned (dv d a cap) ∧ d.kids.length ≤ cap ∧ Dc (New w w') w' f a d.kids

theorem ret40 {ts : Array Value} {W : World} {R : Nat} {d : Dat} {v : Value} (h : Nod R d v W) (h6 : ts[2]? = some (.pointer (some ⟨R, 0, none⟩))) :
    (results Tryz.f40 ts).run Tryz.prog W = .ok (.agg #[.int .i64 d.kind, .int .i64 d.n, .string d.name, .int .i64 d.stamp, .int .i64 d.lib, v]) W := by
  obtain ⟨q, q0, q1, q2, q3, q4, q5, qz⟩ := h
  simp [results, Tryz.results40, go_sem, h6, q0, q1, q2, q3, q4, q5]
theorem ret20 {ts : Array Value} {W : World} {R : Nat} {d : Dat} {v : Value} (h : Nod R d v W) (h6 : ts[2]? = some (.pointer (some ⟨R, 0, none⟩))) :
    (results Tryz.f20 ts).run Tryz.prog W = .ok (.agg #[.int .i64 d.kind, .int .i64 d.n, .string d.name, .int .i64 d.stamp, .int .i64 d.lib, v]) W := by
  obtain ⟨q, q0, q1, q2, q3, q4, q5, qz⟩ := h
  simp [results, Tryz.results20, go_sem, h6, q0, q1, q2, q3, q4, q5]
theorem ret21 {ts : Array Value} {W : World} {R : Nat} {d : Dat} {v : Value} (h : Nod R d v W) (h6 : ts[2]? = some (.pointer (some ⟨R, 0, none⟩))) :
    (results Tryz.f21 ts).run Tryz.prog W = .ok (.agg #[.int .i64 d.kind, .int .i64 d.n, .string d.name, .int .i64 d.stamp, .int .i64 d.lib, v]) W := by
  obtain ⟨q, q0, q1, q2, q3, q4, q5, qz⟩ := h
  simp [results, Tryz.results21, go_sem, h6, q0, q1, q2, q3, q4, q5]

set_option maxHeartbeats 800000 in
theorem List_any (l : List Dat) (a : Option Addr) (cap : Nat) (w : World) : Calls Tryz.prog 20 #[.slice a l.length cap] w fun e w' => e = .returned (dv (liD l) a cap) ∧ Below w.heap.size w w' := by
  go_enter Tryz.func20, Tryz.ntmps20
  go_wp2_with fail
  refine bodyPost_ret (ret20 (d := ⟨4, 0, ⟨#[]⟩, 0, 0, []⟩) (v := .slice a l.length cap) (Nod.made w ⟨4, 0, ⟨#[]⟩, 0, 0, []⟩ _) rfl) rfl ?_
  exact ⟨rfl, (Below.refl _ _).alloc (Nat.le_refl _) _⟩
set_option maxHeartbeats 800000 in
theorem Sym_any (s : ByteArray) (w : World) : Calls Tryz.prog 21 #[.string s] w fun e w' => e = .returned (dv (syD s) none 0) ∧ Below w.heap.size w w' := by
  go_enter Tryz.func21, Tryz.ntmps21
  go_wp2_with fail
  refine bodyPost_ret (ret21 (d := ⟨3, 0, s, 0, 0, []⟩) (v := .slice none 0 0) (Nod.made w ⟨3, 0, s, 0, 0, []⟩ _) rfl) rfl ?_
  exact ⟨rfl, (Below.refl _ _).alloc (Nat.le_refl _) _⟩

set_option maxRecDepth 100000 in
set_option maxHeartbeats 1600000 in
theorem one40_any (s : ByteArray) (d : Dat) (hs : s.size ≤ maxLen) (hr : readL s.data.toList = .inr [d]) (w : World) : Calls Tryz.prog 40 #[.string s] w (ToldO d w) := by
  have RD : Hid (∀ W, Calls Tryz.prog 17 #[.string s] W (OutR (.inr [d]) W)) := fun W => by
    have := Read_any s W hs
    rw [hr] at this
    exact this
  have N0 : Hid (Nod w.heap.size ⟨0, 0, ⟨#[]⟩, 0, 0, []⟩ (.slice none 0 0) _) := Nod.made w ⟨0, 0, ⟨#[]⟩, 0, 0, []⟩ (.slice none 0 0)
  go_enter Tryz.func40, Tryz.ntmps40
  go_wp2_with fail
  refine (RD.out _).mono ?_
  rintro e w1 ⟨hb1, a1, cap1, f1, rfl, hdw⟩
  have hN1 := N0.out.after hb1
  have hsz : w.heap.size + 1 ≤ w1.heap.size := by have := hb1.size; simpa using this
  have HB : Hid (Below w.heap.size w w1) := ((Below.refl _ _).alloc (Nat.le_refl _) _).trans (hb1.mono (by simp))
  have hdc := Dw.dc _ _ _ _ hdw
  obtain ⟨f', b, o, rfl, rfl, hbB, hall⟩ : ∃ f' b o, f1 = f' + 1 ∧ a1 = some ⟨b, o, none⟩ ∧ New (w.alloc (.cells #[.int .i64 0, .int .i64 0, .string ⟨#[]⟩, .int .i64 0, .int .i64 0, .slice none 0 0] 26)) w1 b ∧ ∀ (i : Nat) (x : Dat), [d][i]? = some x → ∃ a' cap, w1.cell? ⟨b, o + i * 6, none⟩ = some (.int .i64 x.kind) ∧ w1.cell? ⟨b, o + i * 6 + 1, none⟩ = some (.int .i64 x.n) ∧ w1.cell? ⟨b, o + i * 6 + 2, none⟩ = some (.string x.name) ∧
      w1.cell? ⟨b, o + i * 6 + 3, none⟩ = some (.int .i64 x.stamp) ∧ w1.cell? ⟨b, o + i * 6 + 4, none⟩ = some (.int .i64 x.lib) ∧ w1.cell? ⟨b, o + i * 6 + 5, none⟩ = some (.slice a' x.kids.length cap) ∧
      x.name.size ≤ maxLen ∧ x.kids.length ≤ cap ∧ Dc (New (w.alloc (.cells #[.int .i64 0, .int .i64 0, .string ⟨#[]⟩, .int .i64 0, .int .i64 0, .slice none 0 0] 26)) w1) w1 f' a' x.kids := by
    cases f1 with
    | zero => cases hdc
    | succ f' =>
      obtain ⟨_, h | ⟨b, o, h1, h2, h3⟩⟩ := hdc
      · cases h
      · exact ⟨f', b, o, rfl, h1, h2, h3⟩
  obtain ⟨a', cap', c0, c1, c2, c3, c4, c5, hn, hc, hk⟩ := hall 0 d rfl
  have HK : Hid (d.kids.length ≤ cap' ∧ Dc (New (w.alloc (.cells #[.int .i64 0, .int .i64 0, .string ⟨#[]⟩, .int .i64 0, .int .i64 0, .slice none 0 0] 26)) w1) w1 f' a' d.kids) := ⟨hc, hk⟩
  have W2 : Hid (∀ q, (w1.alloc (.cells #[.int .i64 0, .int .i64 0] 40)).cell? ⟨b, q, none⟩ = w1.cell? ⟨b, q, none⟩) := fun q => ((Below.refl _ _).alloc (Nat.le_refl _) _ : Below w1.heap.size w1 (w1.alloc (.cells #[.int .i64 0, .int .i64 0] 40))).cell (p := ⟨b, q, none⟩) hbB.2
  have NW : Hid (Nod w.heap.size ⟨0, 0, ⟨#[]⟩, 0, 0, []⟩ (.slice none 0 0) (w1.alloc (.cells #[.int .i64 0, .int .i64 0] 40))) := hN1.alloc _
  simp only [Nat.zero_mul, Nat.add_zero] at c0 c1 c2 c3 c4 c5
  have k0 := (W2.out _).trans c0
  have k1 := (W2.out _).trans c1
  have k2 := (W2.out _).trans c2
  have k3 := (W2.out _).trans c3
  have k4 := (W2.out _).trans c4
  have k5 := (W2.out _).trans c5
  obtain ⟨q, q0, q1, q2, q3, q4, q5, qz⟩ := NW.out
  simp only at q0 q1 q2 q3 q4 q5
  clear hall hdc hdw hb1 hN1 hc hk hn c0 c1 c2 c3 c4 c5
  unfold fv
  go_wp2_with fail
  refine bodyPost_ret (ret40 (NW.out.store d (.slice a' d.kids.length cap')) rfl) rfl ?_
  have hh := six_heap (w1.alloc (.cells #[.int .i64 0, .int .i64 0] 40)) w.heap.size (.int .i64 d.kind) (.int .i64 d.n) (.string d.name) (.int .i64 d.stamp) (.int .i64 d.lib) (.slice a' d.kids.length cap')
  refine ⟨?_, a', cap', f', rfl, HK.out.1, ?_⟩
  · have h1 : Below w.heap.size w (w1.alloc (.cells #[.int .i64 0, .int .i64 0] 40)) := HB.out.alloc (by omega) _
    exact (((((h1.setCell (p := ⟨w.heap.size, 0, none⟩) (Nat.le_refl _) _).setCell (p := ⟨w.heap.size, 1, none⟩) (Nat.le_refl _) _).setCell (p := ⟨w.heap.size, 2, none⟩) (Nat.le_refl _) _).setCell (p := ⟨w.heap.size, 3, none⟩) (Nat.le_refl _) _).setCell (p := ⟨w.heap.size, 4, none⟩) (Nat.le_refl _) _).setCell (p := ⟨w.heap.size, 5, none⟩) (Nat.le_refl _) _
  · refine Dc.stay (fun k hk => ?_) (fun k hk => ⟨?_, ?_⟩) f' _ _ HK.out.2
    · have h1 := hk.1
      simp at h1
      exact (hh.1 k (by omega)).trans (Below.heap_alloc _ _ _ hk.2)
    · have h1 := hk.1
      simp at h1
      omega
    · rw [hh.2]
      simp
      have := hk.2
      omega


theorem run_rowD {w : World} (ty : TypeId) {B : Nat} {v : Value} {es : List (Dat × Option Addr × Nat)} (hv : RowD B v es w) {W0 : World} {F : Nat} {a : Option Addr} {l : List Dat} {cap : Nat}
    (hd : Dn W0 F a l) (hS : Below W0.heap.size W0 w) (hB : W0.heap.size ≤ B) (hBw : B ≤ w.heap.size) (hl : (es.length + l.length) * 72 ≤ 140737488355328) :
    ∃ v' w' fs, (Builtin.append_ #[24, 24] ty #[v, .slice a l.length cap]).run Tryz.prog w = .ok v' w' ∧ fs.map (·.1) = l ∧ RowD B v' (es ++ fs) w' ∧ Below B w w' ∧ (∀ e ∈ fs, ∃ f, Dc (fun b => b < W0.heap.size) w' f e.2.1 e.1.kids) := by
  obtain ⟨i0, hinf, hz0, hz1, hz2⟩ := info_parts infoDat
  by_cases hl0 : l = []
  · subst hl0
    obtain ⟨va, vc, f0, hva, hvc, _⟩ := hv.lie (by omega)
    rw [List.length_map] at hva hvc
    subst hva
    have hr2 : (Builtin.append_ #[24, 24] ty #[.slice va es.length vc, .slice a 0 cap]).run Tryz.prog w = .ok (.slice va es.length vc) w := by
      refine run_append_nothing w 24 24 ty 26 i0 Tryz.underlying24 hinf va es.length vc hvc (.slice a 0 cap) ?_
      cases a with
      | none => exact Src.ofNil w Tryz.underlying24 cap
      | some a => exact Src.ofSlice w Tryz.underlying24 a 0 cap [] (by simp) (by simp) (by simp)
    exact ⟨_, _, [], hr2, rfl, by rw [List.append_nil]; exact hv, Below.refl _ _, by simp⟩
  · obtain ⟨f', b, oo, fs, rfl, hb, hes, hcell, hall⟩ := hd.ents hl0
    have hlen : fs.length = l.length := by rw [← hes, List.length_map]
    obtain ⟨v', w', hr, h2, h3, h4⟩ := run_append_where (P := Tryz.prog) w B 24 ty 26 i0 _ 6 72 Tryz.underlying24 hinf hz0 hz1 hz2 rfl (by decide) v es.length (flat es) hv.own ⟨b, oo, none⟩ l.length cap (flat fs) (by rw [flat_len, hlen]) (by
      intro j u hu
      have hadd : (⟨b, oo, none⟩ : Addr).add j = ⟨b, oo + j, none⟩ := by unfold Addr.add; split <;> simp_all
      rw [hadd]
      exact (hS.cell (p := ⟨b, oo + j, none⟩) hb).trans (hcell j u hu)) (flat_one fs) (List.length_pos_iff.2 hl0) (by unfold maxLen; omega) hl hBw
    refine ⟨v', w', fs, hr, hes, hv.more (Below.refl _ _) (fun e he => ?_) (by rw [hlen]; exact h2) h3 h4, (Below.refl B w).grown h3 hBw (fun k hk => (hv.own.lt k hk).1), fun e he => ?_⟩
    rotate_left
    · obtain ⟨g1, g2, g3⟩ := hall e he
      refine ⟨f', Dc.stay (fun k hk => (h3.block k (Nat.lt_of_lt_of_le hk hS.size) (fun e => ?_)).trans (hS.block k hk)) (fun k hk => hk) _ _ _ g3⟩
      have := (hv.own.lt k e.symm).1
      omega
    obtain ⟨g1, g2, g3⟩ := hall e he
    refine ⟨g1, g2, f', Dc.stay (fun k hk => hS.block k hk) (fun k hk => ⟨Nat.lt_of_lt_of_le hk hS.size, fun e => ?_⟩) _ _ _ g3⟩
    have := (hv.own.lt k e.symm).1
    omega
theorem step_rowD {ops : Array Oper} {o : Oper} {act : Act} {K : Act → World → Prop} {Q : Exit → Act → World → Prop} {E : Prop} (hgd : o.guard = none) (s x : Operand)
    (ho : o.op = .call { callee := .builtin .append, args := #[s, x], argTypes := #[24, 24] })
    {w : World} {B : Nat} {v : Value} {es : List (Dat × Option Addr × Nat)} (hv : RowD B v es w) {W0 : World} {F : Nat} {a : Option Addr} {l : List Dat} {cap : Nat}
    (hs : act.eval s = v) (hx : act.eval x = .slice a l.length cap)
    (hd : Dn W0 F a l) (hS : Below W0.heap.size W0 w) (hB : W0.heap.size ≤ B) (hBw : B ≤ w.heap.size) (hl : (es.length + l.length) * 72 ≤ 140737488355328)
    (h : ∀ v' w' fs, fs.map (·.1) = l → RowD B v' (es ++ fs) w' → Below B w w' → (∀ e ∈ fs, ∃ f, Dc (fun b => b < W0.heap.size) w' f e.2.1 e.1.kids) → K (act.put o.dst v') w') :
    if Region.wanted o (yielded ops act.tmps) = true then Oper.wp Tryz.prog o act w K Q else E := by
  have hw : Region.wanted o (yielded ops act.tmps) = true := by simp [Region.wanted, hgd]
  rw [if_pos hw]
  obtain ⟨v', w', fs, hrun, h2, h3, h4, h5⟩ := run_rowD o.type hv (cap := cap) hd hS hB hBw hl
  unfold Oper.wp execOp
  simp only [ho, resolve, invoke, builtin, Sem.run_bind, Sem.run_pure, Result.andThen_ok, List.map_toArray, List.map_cons, List.map_nil, hs, hx, hrun]
  exact h v' w' fs h2 h3 h4 h5
theorem wpList_rowD {w : World} {ops : Array Oper} {rest : List Oper} {o : Oper} {act : Act} {Q : Exit → Act → World → Prop} (hgd : o.guard = none) (s x : Operand)
    (ho : o.op = .call { callee := .builtin .append, args := #[s, x], argTypes := #[24, 24] })
    {B : Nat} {v : Value} {es : List (Dat × Option Addr × Nat)} (hv : RowD B v es w) {W0 : World} {F : Nat} {a : Option Addr} {l : List Dat} {cap : Nat}
    (hs : act.eval s = v) (hx : act.eval x = .slice a l.length cap)
    (hd : Dn W0 F a l) (hS : Below W0.heap.size W0 w) (hB : W0.heap.size ≤ B) (hBw : B ≤ w.heap.size) (hl : (es.length + l.length) * 72 ≤ 140737488355328)
    (h : ∀ v' w' fs, fs.map (·.1) = l → RowD B v' (es ++ fs) w' → Below B w w' → (∀ e ∈ fs, ∃ f, Dc (fun b => b < W0.heap.size) w' f e.2.1 e.1.kids) → wpList Tryz.prog ops Q rest (act.put o.dst v') w') : wpList Tryz.prog ops Q (o :: rest) act w := by
  refine wpList_plain hgd fun _ hK => ?_
  obtain ⟨v', w', fs, hrun, h2, h3, h4, h5⟩ := run_rowD o.type hv (cap := cap) hd hS hB hBw hl
  unfold Oper.wp execOp
  simp only [ho, resolve, invoke, builtin, Sem.run_bind, Sem.run_pure, Result.andThen_ok, List.map_toArray, List.map_cons, List.map_nil, hs, hx, hrun]
  exact hK _ _ (h v' w' fs h2 h3 h4 h5)
end Go.Proofs.YtonafbennobgdaaGreatDoor
