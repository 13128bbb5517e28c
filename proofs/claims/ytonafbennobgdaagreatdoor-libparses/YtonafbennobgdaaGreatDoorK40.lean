/- Data without stamps. -/
import Derived.Test.YtonafbennobgdaaGreatDoorK02
namespace Go.Proofs.YtonafbennobgdaaGreatDoor.R3
set_option linter.unusedVariables false
set_option linter.unusedSimpArgs false
open Go.RowKit
mutual
def zrD : Dat → Prop
 | ⟨k, _, _, st, lb, ks⟩ => (k = 3 → st = 0 ∧ lb = 0) ∧ (k = 4 → zrL ks)
def zrL : List Dat → Prop
 | [] => True
 | d :: r => zrD d ∧ zrL r
end
theorem zrL_app : ∀ (l r : List Dat), zrL l → zrL r → zrL (l ++ r)
 | [], r, _, h => h
 | d :: l, r, h, h' => by
  rw [zrL] at h
  rw [List.cons_append, zrL]
  exact ⟨h.1, zrL_app l r h.2 h'⟩
theorem zrL_mem : ∀ {l : List Dat}, zrL l → ∀ d ∈ l, zrD d
 | [], _, d, h => by cases h
 | x :: l, h, d, hd => by
  rw [zrL] at h
  rcases List.mem_cons.1 hd with rfl | hd
  ·exact h.1
  exact zrL_mem h.2 d hd
theorem zrD_sym {d : Dat} (h : zrD d) (hk : d.kind = 3) : d.stamp = 0 ∧ d.lib = 0 := by
 cases d
 rw [zrD] at h
 exact h.1 hk
theorem zrD_list {d : Dat} (h : zrD d) (hk : d.kind = 4) : zrL d.kids := by
 cases d
 rw [zrD] at h
 exact h.2 hk
theorem zrD_mk {d : Dat} (h3 : d.kind = 3 → d.stamp = 0 ∧ d.lib = 0) (h4 : d.kind = 4 → zrL d.kids) : zrD d := by
 cases d
 rw [zrD]
 exact ⟨h3, h4⟩
theorem bareQL_map : ∀ (l : List Dat), bareQL l = l.map bareQ
 | [] => rfl
 | d :: r => by rw [bareQL, bareQL_map r]; rfl
mutual
theorem zr_bareD : ∀ (d : Dat), bareQ d = d → zrD d
 | ⟨k, n, nm, st, lb, ks⟩, h => by
  rw [bareQ] at h
  simp only [Dat.mk.injEq] at h
  obtain ⟨_, _, _, h1, h2, h3⟩ := h
  rw [zrD]
  exact ⟨fun _ => ⟨h1.symm, h2.symm⟩, fun hk => zr_bareL ks (by rw [if_pos hk] at h3; exact h3)⟩
theorem zr_bareL : ∀ (l : List Dat), bareQL l = l → zrL l
 | [], _ => by rw [zrL]; trivial
 | d :: r, h => by
  rw [bareQL] at h
  simp only [List.cons.injEq] at h
  rw [zrL]
  exact ⟨zr_bareD d h.1, zr_bareL r h.2⟩
end
end Go.Proofs.YtonafbennobgdaaGreatDoor.R3
