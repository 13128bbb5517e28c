/- Package rule set: a list of a pattern, held against data. -/
import Derived.Test.YtgeedaabdonjcaeGreatDoorK28
import Derived.Deep.RegionWith
import Derived.Deep.RegionHeld3
namespace Go.Proofs.YtgeedaabdonjcaeGreatDoor
set_option linter.unusedVariables false
set_option linter.unusedSimpArgs false
open Go.RowKit Go.Maps Go.WideMaps

/-- What comes of a list that is parted so. -/
def fitR (lits : List ByteArray) (ahead : List Dat) (rest : Option Dat) (ds : List Dat) (m : ByteArray → List Dat) : Option (ByteArray → List Dat) :=
  if ds.length < ahead.length ∨ (ahead.length < ds.length ∧ rest = none) then none
  else (fitA lits ahead ds m).bind fun m => match rest with
    | none => some m
    | some p => (ds.drop ahead.length).foldlM (fun m d => fitD lits p d m) m

theorem fitA_at {lits : List ByteArray} {ah ds : List Dat} {j : Nat} {p d : Dat} (hp : ah[j]? = some p) (hd : ds[j]? = some d) (m : ByteArray → List Dat) : fitA lits (ah.drop j) (ds.drop j) m = (fitD lits p d m).bind fun m => fitA lits (ah.drop (j + 1)) (ds.drop (j + 1)) m := by
  rw [drop_cons' hp, drop_cons' hd, fitA]
theorem foldlM_at {α β : Type} {f : α → β → Option α} {l : List β} {j : Nat} {d : β} (h : l[j]? = some d) (m : α) : (l.drop j).foldlM f m = (f m d).bind fun m => (l.drop (j + 1)).foldlM f m := by
  obtain ⟨hi, e⟩ := List.getElem?_eq_some_iff.1 h
  rw [List.drop_eq_getElem_cons hi, e, List.foldlM_cons]
  rfl

/-- How a list is parted, in memory. -/
structure Part (ps ahead : List Dat) (rest : Option Dat) : Prop where
  atA : ∀ (j : Nat) (p : Dat), ahead[j]? = some p → ps[j]? = some p
  atR : ∀ (p : Dat), rest = some p → ps[ahead.length]? = some p
  okA : ∀ p ∈ ahead, okD p = true
  okR : ∀ (p : Dat), rest = some p → okD p = true

/-- The value of what stands for many. -/
def restV (b o n c : Nat) : Option Dat → Value
  | none => .slice none 0 0
  | some _ => .slice (some ⟨b, o + n * 6, none⟩) 1 c

/-- What is asked of a thing. -/
def AskT (lits : List ByteArray) (B gp gd lb mb : Nat) : Prop := ∀ (p d : Dat) (pa da : Option Addr) (pc dc L : Nat) (m : ByteArray → List Dat) (o : Nat → Prop) (w : World), p.name.size ≤ maxLen → d.name.size ≤ maxLen → p.kids.length ≤ pc → d.kids.length ≤ dc → LC B w gp pa p.kids → LC B w gd da d.kids → okD p = true →
    LitM lb lits w → Met mb B gd L m o w → L + sizeD d ≤ 2000 → Calls Tryz.prog 56 #[fitv lb mb, dv p pa pc, dv d da dc] w (ToldF mb B gd (L + sizeD d) o (fitD lits p d m) w)

set_option maxRecDepth 100000 in
set_option maxHeartbeats 6400000 in
theorem list_core (lits : List ByteArray) (B gp gd lb mb L : Nat) (m : ByteArray → List Dat) (o : Nat → Prop) (ps ahead ds : List Dat) (rest : Option Dat) (b of b' o' pc dc c : Nat) (w : World)
    (hp : LC B w (gp + 1) (some ⟨b, of, none⟩) ps) (hd : LC B w (gd + 1) (some ⟨b', o', none⟩) ds) (hdc : ds.length ≤ dc) (hpl : ahead.length ≤ ps.length) (hpart : Part ps ahead rest) (hB : B ≤ mb) (hlb : lb < mb) (hL : LitM lb lits w) (hM : Met mb B gd L m o w) (hlim : L + sizeL ds ≤ 2000)
    (hdot : ∀ W, Below w.heap.size w W → Calls Tryz.prog 55 #[.slice (some ⟨b, of, none⟩) ps.length pc] W fun e w' => Below W.heap.size W w' ∧ e = .returned (.tuple #[.slice (some ⟨b, of, none⟩) ahead.length pc, restV b of ahead.length c rest]))
    (ih : AskT lits B gp gd lb mb) :
    Calls Tryz.prog 32 #[fitv lb mb, .slice (some ⟨b, of, none⟩) ps.length pc, .slice (some ⟨b', o', none⟩) ds.length dc] w (ToldF mb B gd (L + sizeL ds) o (fitR lits ahead rest ds m) w) := by
  have hlp := hp.len
  have hld := hd.len
  have lm := hM.lt
  have HH : Hid (LitM lb lits w ∧ Met mb B gd L m o w ∧ LC B w (gp + 1) (some ⟨b, of, none⟩) ps ∧ LC B w (gd + 1) (some ⟨b', o', none⟩) ds ∧ Part ps ahead rest) := ⟨hL, hM, hp, hd, hpart⟩
  have IH := hidd ih
  have DT := hidd hdot
  have OW : Hid (∀ k, o k → mb < k ∧ k < w.heap.size) := fun k hk => hM.own hk
  clear hL hM hp hd hpart ih hdot
  unfold fitv
  by_cases h1 : ds.length < ahead.length
  · have e1 : fitR lits ahead rest ds m = none := by unfold fitR; rw [if_pos (Or.inl h1)]
    rw [e1]
    have h1' : decide ((ds.length : Int) < (ahead.length : Int)) = true := by simp; omega
    clear e1
    go_enter Tryz.func32, Tryz.ntmps32
    go_wp2_with fail
    refine (DT.out _ ((Below.refl _ _).alloc (Nat.le_refl _) _)).mono ?_
    rintro e w1 ⟨hb1, rfl⟩
    have HF : Hid (Fr mb o o w w1) := Fr.of_below (((Below.refl _ _).alloc (Nat.le_refl _) _).trans (hb1.mono (by simp)))
    clear hb1
    cases rest
    all_goals
      unfold restV
      go_wp2_with fail
      go_ret
      exact ⟨o, HF.out, rfl⟩
  · have h1' : decide ((ds.length : Int) < (ahead.length : Int)) = false := by simp; omega
    by_cases h2 : ahead.length < ds.length ∧ rest = none
    · have e1 : fitR lits ahead rest ds m = none := by unfold fitR; rw [if_pos (Or.inr h2)]
      rw [e1]
      obtain ⟨h2, rfl⟩ := h2
      have h2' : decide ((ahead.length : Int) < (ds.length : Int)) = true := by simp; omega
      clear e1
      go_enter Tryz.func32, Tryz.ntmps32
      go_wp2_with fail
      refine (DT.out _ ((Below.refl _ _).alloc (Nat.le_refl _) _)).mono ?_
      rintro e w1 ⟨hb1, rfl⟩
      have HF : Hid (Fr mb o o w w1) := Fr.of_below (((Below.refl _ _).alloc (Nat.le_refl _) _).trans (hb1.mono (by simp)))
      clear hb1
      unfold restV
      go_wp2_with fail
      go_ret
      exact ⟨o, HF.out, rfl⟩
    · have e1 : fitR lits ahead rest ds m = (fitA lits ahead ds m).bind fun m => match rest with
          | none => some m
          | some p => (ds.drop ahead.length).foldlM (fun m d => fitD lits p d m) m := by unfold fitR; rw [if_neg (by simp only [not_or]; exact ⟨h1, h2⟩)]
      have HE := hidd e1
      clear e1
      generalize fitR lits ahead rest ds m = R at HE ⊢
      have HN : Hid (rest = none → ds.length = ahead.length) := fun h => by
        have : ¬ ahead.length < ds.length := fun q => h2 ⟨q, h⟩
        omega
      have hle : ahead.length ≤ ds.length := by omega
      -- the box
      have HBX : Hid (∀ w1, Below (w.alloc (.cells #[.map (some lb), .map (some mb)] 71)).heap.size (w.alloc (.cells #[.map (some lb), .map (some mb)] 71)) w1 → w1.heap[w.heap.size]? = some (.cells #[.map (some lb), .map (some mb)] 71 (0, 0)) ∧ Below w.heap.size w w1) := fun w1 hb => ⟨(hb.block _ (by simp)).trans (World.alloc_heap_new w _), ((Below.refl _ _).alloc (Nat.le_refl _) _).trans (hb.mono (by simp))⟩
      have HG0 : Hid (∀ w1, Below w.heap.size w w1 → Met mb B gd L m o w1) := fun w1 hb => HH.out.2.1.below (by omega) hb
      cases rest with
      | none =>
        have hal : ds.length = ahead.length := HN.out rfl
        clear h2
        have HG0' := HG0
        clear HG0
        go_enter Tryz.func32, Tryz.ntmps32
        go_wp2_with fail
        refine (DT.out _ ((Below.refl _ _).alloc (Nat.le_refl _) _)).mono ?_
        rintro e w1 ⟨hb1, rfl⟩
        obtain ⟨hbx, hb0⟩ := HBX.out w1 hb1
        have H1 : Hid (w1.heap[w.heap.size]? = some (.cells #[.map (some lb), .map (some mb)] 71 (0, 0)) ∧ Below w.heap.size w w1) := ⟨hbx, hb0⟩
        have H1F : Hid (Fr mb o o w w1) := Fr.of_below hb0
        have HG0 : Hid (Met mb B gd L m o w1 ∧ True) := ⟨HG0'.out w1 hb0, trivial⟩
        have HG : Hid (∀ (oj : Nat → Prop) (wr : World), Fr mb o oj w1 wr → wr.cell? ⟨w.heap.size, 0, none⟩ = some (.map (some lb)) ∧ wr.cell? ⟨w.heap.size, 1, none⟩ = some (.map (some mb)) ∧ LitM lb lits wr ∧ LC B wr (gp + 1) (some ⟨b, of, none⟩) ps ∧ LC B wr (gd + 1) (some ⟨b', o', none⟩) ds ∧ w.heap.size + 1 ≤ wr.heap.size) := by
          intro oj wr hf
          have hz := (Array.getElem?_eq_some_iff.1 hbx).1
          have hn : wr.heap[w.heap.size]? = some (.cells #[.map (some lb), .map (some mb)] 71 (0, 0)) := (hf.same _ hz (by omega) (fun q => by have := OW.out _ q; omega)).trans hbx
          have hbb : Below B w wr := (hb0.mono (by omega)).trans (hf.below (fun k hk => (OW.out k hk).1) hB (by have := hb0.size; omega))
          exact ⟨by simp [World.cell?, hn], by simp [World.cell?, hn], (HH.out.1.below hb0).kept (hf.same lb (by have := hb0.size; omega) (by omega) (fun q => by have := OW.out _ q; omega)), HH.out.2.2.1.below hbb, HH.out.2.2.2.1.below hbb, by have := hf.size; omega⟩
        clear hb1 hbx hb0 HG0'
        unfold restV
        have h5' : decide ((ahead.length : Int) < (ds.length : Int)) = false := by simp; omega
        go_wp2_with fail
        go_loopw [37] (fun i wr => ∃ (j : Nat) (mj : ByteArray → List Dat) (oj : Nat → Prop), j ≤ ahead.length ∧ i = .int .i64 j ∧ Fr mb o oj w1 wr ∧ Met mb B gd (L + sizeL (ds.take j)) mj oj wr ∧ fitA lits ahead ds m = fitA lits (ahead.drop j) (ds.drop j) mj) (fun i _ => ahead.length - (intOf i).toNat)
        case atStart => exact ⟨0, m, o, Nat.zero_le _, rfl, Fr.refl _ _ _, by simpa [sizeL] using HG0.out.1, rfl⟩
        case round =>
          obtain ⟨j, mj, oj, hj, rfl, hfr, hmr, hea⟩ := hrel
          have HR : Hid (Fr mb o oj w1 wr ∧ Met mb B gd (L + sizeL (ds.take j)) mj oj wr ∧ fitA lits ahead ds m = fitA lits (ahead.drop j) (ds.drop j) mj) := ⟨hfr, hmr, hea⟩
          obtain ⟨n0, n1, hL2, hp2, hd2, hNz⟩ := HG.out oj wr hfr
          clear hfr hmr hea
          by_cases hlt : j < ahead.length
          · obtain ⟨p, hpj⟩ : ∃ p, ahead[j]? = some p := ⟨ahead[j], List.getElem?_eq_getElem hlt⟩
            obtain ⟨d, hdj⟩ : ∃ d, ds[j]? = some d := ⟨ds[j]'(by omega), List.getElem?_eq_getElem _⟩
            obtain ⟨g1, b1, o1, hg1, ha1, hb1B, hall1⟩ := hp2.at (by intro e; have := HH.out.2.2.2.2.atA j p hpj; rw [e] at this; simp at this)
            cases ha1
            obtain ⟨pa', pc', p0c, p1c, p2c, p3c, p4c, p5c, hpn, hpcc, hpk⟩ := hall1 j p (HH.out.2.2.2.2.atA j p hpj)
            obtain ⟨g2, b2, o2, hg2, ha2, hb2B, hall2⟩ := hd2.at (by intro e; rw [e] at hdj; simp at hdj)
            cases ha2
            obtain ⟨da', dc', d0c, d1c, d2c, d3c, d4c, d5c, hdn, hdcc, hdk⟩ := hall2 j d hdj
            have hg1' : g1 = gp := by omega
            have hg2' : g2 = gd := by omega
            subst hg1'
            subst hg2'
            have HZ : Hid (sizeL (ds.take (j + 1)) = sizeL (ds.take j) + sizeD d ∧ sizeL (ds.take (j + 1)) ≤ sizeL ds ∧ fitA lits (ahead.drop j) (ds.drop j) mj = (fitD lits p d mj).bind fun m => fitA lits (ahead.drop (j + 1)) (ds.drop (j + 1)) m) := ⟨sizeL_take hdj, sizeL_part _ _, fitA_at hpj hdj mj⟩
            have TH : Hid (∀ W', Below wr.heap.size wr W' → Calls Tryz.prog 56 #[fitv lb mb, dv p pa' pc', dv d da' dc'] W' (ToldF mb B g2 (L + sizeL (ds.take (j + 1))) oj (fitD lits p d mj) W')) := fun W' hb => by
              have h := IH.out p d pa' da' pc' dc' (L + sizeL (ds.take j)) mj oj W' hpn hdn hpcc hdcc (hpk.below (hb.mono (by omega))) (hdk.below (hb.mono (by omega))) (HH.out.2.2.2.2.okA p (List.mem_of_getElem? hpj)) (hL2.below hb) (HR.out.2.1.below (by omega) hb) (by have := HZ.out; omega)
              rw [HZ.out.1, ← Nat.add_assoc]
              exact h
            unfold fitv dv at TH
            generalize fitD lits p d mj = r at TH HZ
            have hz1 : w.heap.size < wr.heap.size := by omega
            have hz2 : b' < wr.heap.size := by omega
            have KB : Hid ((wr.alloc (.cells #[.int .i64 p.kind, .int .i64 p.n, .string p.name, .int .i64 p.stamp, .int .i64 p.lib, .slice pa' p.kids.length pc'] 28)).cell? ⟨w.heap.size, 0, none⟩ = some (.map (some lb)) ∧ (wr.alloc (.cells #[.int .i64 p.kind, .int .i64 p.n, .string p.name, .int .i64 p.stamp, .int .i64 p.lib, .slice pa' p.kids.length pc'] 28)).cell? ⟨w.heap.size, 1, none⟩ = some (.map (some mb)) ∧ (wr.alloc (.cells #[.int .i64 p.kind, .int .i64 p.n, .string p.name, .int .i64 p.stamp, .int .i64 p.lib, .slice pa' p.kids.length pc'] 28)).cell? ⟨wr.heap.size, 0, none⟩ = some (.int .i64 p.kind) ∧ (wr.alloc (.cells #[.int .i64 p.kind, .int .i64 p.n, .string p.name, .int .i64 p.stamp, .int .i64 p.lib, .slice pa' p.kids.length pc'] 28)).cell? ⟨wr.heap.size, 1, none⟩ = some (.int .i64 p.n) ∧ (wr.alloc (.cells #[.int .i64 p.kind, .int .i64 p.n, .string p.name, .int .i64 p.stamp, .int .i64 p.lib, .slice pa' p.kids.length pc'] 28)).cell? ⟨wr.heap.size, 2, none⟩ = some (.string p.name) ∧ (wr.alloc (.cells #[.int .i64 p.kind, .int .i64 p.n, .string p.name, .int .i64 p.stamp, .int .i64 p.lib, .slice pa' p.kids.length pc'] 28)).cell? ⟨wr.heap.size, 3, none⟩ = some (.int .i64 p.stamp) ∧ (wr.alloc (.cells #[.int .i64 p.kind, .int .i64 p.n, .string p.name, .int .i64 p.stamp, .int .i64 p.lib, .slice pa' p.kids.length pc'] 28)).cell? ⟨wr.heap.size, 4, none⟩ = some (.int .i64 p.lib) ∧ (wr.alloc (.cells #[.int .i64 p.kind, .int .i64 p.n, .string p.name, .int .i64 p.stamp, .int .i64 p.lib, .slice pa' p.kids.length pc'] 28)).cell? ⟨wr.heap.size, 5, none⟩ = some (.slice pa' p.kids.length pc') ∧ (wr.alloc (.cells #[.int .i64 p.kind, .int .i64 p.n, .string p.name, .int .i64 p.stamp, .int .i64 p.lib, .slice pa' p.kids.length pc'] 28)).cell? ⟨b', o' + j * 6, none⟩ = some (.int .i64 d.kind) ∧ (wr.alloc (.cells #[.int .i64 p.kind, .int .i64 p.n, .string p.name, .int .i64 p.stamp, .int .i64 p.lib, .slice pa' p.kids.length pc'] 28)).cell? ⟨b', o' + j * 6 + 1, none⟩ = some (.int .i64 d.n) ∧ (wr.alloc (.cells #[.int .i64 p.kind, .int .i64 p.n, .string p.name, .int .i64 p.stamp, .int .i64 p.lib, .slice pa' p.kids.length pc'] 28)).cell? ⟨b', o' + j * 6 + 2, none⟩ = some (.string d.name) ∧ (wr.alloc (.cells #[.int .i64 p.kind, .int .i64 p.n, .string p.name, .int .i64 p.stamp, .int .i64 p.lib, .slice pa' p.kids.length pc'] 28)).cell? ⟨b', o' + j * 6 + 3, none⟩ = some (.int .i64 d.stamp) ∧ (wr.alloc (.cells #[.int .i64 p.kind, .int .i64 p.n, .string p.name, .int .i64 p.stamp, .int .i64 p.lib, .slice pa' p.kids.length pc'] 28)).cell? ⟨b', o' + j * 6 + 4, none⟩ = some (.int .i64 d.lib) ∧ (wr.alloc (.cells #[.int .i64 p.kind, .int .i64 p.n, .string p.name, .int .i64 p.stamp, .int .i64 p.lib, .slice pa' p.kids.length pc'] 28)).cell? ⟨b', o' + j * 6 + 5, none⟩ = some (.slice da' d.kids.length dc')) := by
              have eb : Below wr.heap.size wr (wr.alloc (.cells #[.int .i64 p.kind, .int .i64 p.n, .string p.name, .int .i64 p.stamp, .int .i64 p.lib, .slice pa' p.kids.length pc'] 28)) := (Below.refl _ _).alloc (Nat.le_refl _) _
              have en : ∀ q, (wr.alloc (.cells #[.int .i64 p.kind, .int .i64 p.n, .string p.name, .int .i64 p.stamp, .int .i64 p.lib, .slice pa' p.kids.length pc'] 28)).cell? ⟨w.heap.size, q, none⟩ = wr.cell? ⟨w.heap.size, q, none⟩ := fun q => eb.cell (p := ⟨w.heap.size, q, none⟩) hz1
              have ed : ∀ q, (wr.alloc (.cells #[.int .i64 p.kind, .int .i64 p.n, .string p.name, .int .i64 p.stamp, .int .i64 p.lib, .slice pa' p.kids.length pc'] 28)).cell? ⟨b', q, none⟩ = wr.cell? ⟨b', q, none⟩ := fun q => eb.cell (p := ⟨b', q, none⟩) hz2
              have ex := fun q => World.cell?_alloc_mark wr #[.int .i64 p.kind, .int .i64 p.n, .string p.name, .int .i64 p.stamp, .int .i64 p.lib, .slice pa' p.kids.length pc'] 28 (0, 0) q
              exact ⟨(en 0).trans n0, (en 1).trans n1, ex 0, ex 1, ex 2, ex 3, ex 4, ex 5, (ed _).trans d0c, (ed _).trans d1c, (ed _).trans d2c, (ed _).trans d3c, (ed _).trans d4c, (ed _).trans d5c⟩
            have SK : Hid (∀ (w3 : World) (o3 : Nat → Prop), Fr mb oj o3 (wr.alloc (.cells #[.int .i64 p.kind, .int .i64 p.n, .string p.name, .int .i64 p.stamp, .int .i64 p.lib, .slice pa' p.kids.length pc'] 28)).drew w3 → (w3.cell? ⟨w.heap.size, 0, none⟩ = some (.map (some lb)) ∧ w3.cell? ⟨w.heap.size, 1, none⟩ = some (.map (some mb)) ∧ w3.cell? ⟨wr.heap.size, 0, none⟩ = some (.int .i64 p.kind) ∧ w3.cell? ⟨wr.heap.size, 1, none⟩ = some (.int .i64 p.n) ∧ w3.cell? ⟨wr.heap.size, 2, none⟩ = some (.string p.name) ∧ w3.cell? ⟨wr.heap.size, 3, none⟩ = some (.int .i64 p.stamp) ∧ w3.cell? ⟨wr.heap.size, 4, none⟩ = some (.int .i64 p.lib) ∧ w3.cell? ⟨wr.heap.size, 5, none⟩ = some (.slice pa' p.kids.length pc') ∧ w3.cell? ⟨b', o' + j * 6, none⟩ = some (.int .i64 d.kind) ∧ w3.cell? ⟨b', o' + j * 6 + 1, none⟩ = some (.int .i64 d.n) ∧ w3.cell? ⟨b', o' + j * 6 + 2, none⟩ = some (.string d.name) ∧ w3.cell? ⟨b', o' + j * 6 + 3, none⟩ = some (.int .i64 d.stamp) ∧ w3.cell? ⟨b', o' + j * 6 + 4, none⟩ = some (.int .i64 d.lib) ∧ w3.cell? ⟨b', o' + j * 6 + 5, none⟩ = some (.slice da' d.kids.length dc'))) := by
              intro w3 o3 hf
              have hown : ∀ k, oj k → mb < k ∧ k < wr.heap.size := fun k hk => HR.out.2.1.own hk
              have hNo : ¬ oj w.heap.size := fun q => by
                rcases HR.out.1.fresh _ q with q | q
                · have := OW.out _ q; omega
                · have := (Array.getElem?_eq_some_iff.1 H1.out.1).1; omega
              have eN : ∀ q, w3.cell? ⟨w.heap.size, q, none⟩ = (wr.alloc (.cells #[.int .i64 p.kind, .int .i64 p.n, .string p.name, .int .i64 p.stamp, .int .i64 p.lib, .slice pa' p.kids.length pc'] 28)).cell? ⟨w.heap.size, q, none⟩ := fun q => World.cell?_of_block (a := ⟨w.heap.size, q, none⟩) (hf.same w.heap.size (by simp; omega) (by omega) hNo)
              have eX : ∀ q, w3.cell? ⟨wr.heap.size, q, none⟩ = (wr.alloc (.cells #[.int .i64 p.kind, .int .i64 p.n, .string p.name, .int .i64 p.stamp, .int .i64 p.lib, .slice pa' p.kids.length pc'] 28)).cell? ⟨wr.heap.size, q, none⟩ := fun q => World.cell?_of_block (a := ⟨wr.heap.size, q, none⟩) (hf.same wr.heap.size (by simp) (by omega) (fun q => by have := hown _ q; omega))
              have eD : ∀ q, w3.cell? ⟨b', q, none⟩ = (wr.alloc (.cells #[.int .i64 p.kind, .int .i64 p.n, .string p.name, .int .i64 p.stamp, .int .i64 p.lib, .slice pa' p.kids.length pc'] 28)).cell? ⟨b', q, none⟩ := fun q => World.cell?_of_block (a := ⟨b', q, none⟩) (hf.same b' (by simp; omega) (by omega) (fun q => by have := hown _ q; omega))
              obtain ⟨s0, s1, x0, x1, x2, x3, x4, x5, y0, y1, y2, y3, y4, y5⟩ := KB.out
              exact ⟨(eN 0).trans s0, (eN 1).trans s1, (eX 0).trans x0, (eX 1).trans x1, (eX 2).trans x2, (eX 3).trans x3, (eX 4).trans x4, (eX 5).trans x5, (eD _).trans y0, (eD _).trans y1, (eD _).trans y2, (eD _).trans y3, (eD _).trans y4, (eD _).trans y5⟩
            have hjd : (j : Int) < (ds.length : Int) := by omega
            have hjd2 : j < ds.length := by omega
            clear hpj hdj hall1 hall2 hpk hdk hpn hdn hpcc hdcc hL2 hp2 hd2 hg1 hg2 HBX
            cases r with
            | none =>
              have TN : Hid (∀ W', Below wr.heap.size wr W' → Calls Tryz.prog 56 _ W' fun e w' => ∃ o3, Fr mb oj o3 W' w' ∧ e = .returned (.bool false)) := TH.out
              have HRN : Hid (R = none) := by
                show R = none
                rw [HE.out, HR.out.2.2, HZ.out.2.2]
                rfl
              clear TH
              go_wp2_with fail
              go_region_held3 (fun w' => (w'.cell? ⟨w.heap.size, 0, none⟩ = some (.map (some lb)) ∧ w'.cell? ⟨w.heap.size, 1, none⟩ = some (.map (some mb)) ∧ w'.cell? ⟨wr.heap.size, 0, none⟩ = some (.int .i64 p.kind) ∧ w'.cell? ⟨wr.heap.size, 1, none⟩ = some (.int .i64 p.n) ∧ w'.cell? ⟨wr.heap.size, 2, none⟩ = some (.string p.name) ∧ w'.cell? ⟨wr.heap.size, 3, none⟩ = some (.int .i64 p.stamp) ∧ w'.cell? ⟨wr.heap.size, 4, none⟩ = some (.int .i64 p.lib) ∧ w'.cell? ⟨wr.heap.size, 5, none⟩ = some (.slice pa' p.kids.length pc') ∧ w'.cell? ⟨b', o' + j * 6, none⟩ = some (.int .i64 d.kind) ∧ w'.cell? ⟨b', o' + j * 6 + 1, none⟩ = some (.int .i64 d.n) ∧ w'.cell? ⟨b', o' + j * 6 + 2, none⟩ = some (.string d.name) ∧ w'.cell? ⟨b', o' + j * 6 + 3, none⟩ = some (.int .i64 d.stamp) ∧ w'.cell? ⟨b', o' + j * 6 + 4, none⟩ = some (.int .i64 d.lib) ∧ w'.cell? ⟨b', o' + j * 6 + 5, none⟩ = some (.slice da' d.kids.length dc'))) (first | (with_reducible exact KB.out) | (with_reducible exact hc3) | exact KB.out | exact hc3) (first | (go_at_call 56; refine (TN.out _ (by exact Below.drew ((Below.refl _ _).alloc (Nat.le_refl _) _))).mono ?_; rintro e w3 ⟨o3, hf3, rfl⟩; have hc3 := SK.out w3 o3 hf3))
              all_goals
                have HF3 : Hid (Fr mb o o3 w1 w3) := (HR.out.1.trans (Fr.of_below (Below.drew ((Below.refl _ _).alloc (Nat.le_refl _) _)))).trans hf3
                clear hf3 hc3 n0 n1 p0c p1c p2c p3c p4c p5c d0c d1c d2c d3c d4c d5c
                go_wp2_with fail
                go_ret
                exact ⟨o3, H1F.out.trans HF3.out, by rw [HRN.out]; rfl⟩
            | some m3 =>
              have TS : Hid (∀ W', Below wr.heap.size wr W' → Calls Tryz.prog 56 _ W' fun e w' => ∃ o3, Fr mb oj o3 W' w' ∧ e = .returned (.bool true) ∧ Met mb B g2 (L + sizeL (ds.take (j + 1))) m3 o3 w') := TH.out
              clear TH
              go_wp2_with fail
              go_region_held3 (fun w' => (w'.cell? ⟨w.heap.size, 0, none⟩ = some (.map (some lb)) ∧ w'.cell? ⟨w.heap.size, 1, none⟩ = some (.map (some mb)) ∧ w'.cell? ⟨wr.heap.size, 0, none⟩ = some (.int .i64 p.kind) ∧ w'.cell? ⟨wr.heap.size, 1, none⟩ = some (.int .i64 p.n) ∧ w'.cell? ⟨wr.heap.size, 2, none⟩ = some (.string p.name) ∧ w'.cell? ⟨wr.heap.size, 3, none⟩ = some (.int .i64 p.stamp) ∧ w'.cell? ⟨wr.heap.size, 4, none⟩ = some (.int .i64 p.lib) ∧ w'.cell? ⟨wr.heap.size, 5, none⟩ = some (.slice pa' p.kids.length pc') ∧ w'.cell? ⟨b', o' + j * 6, none⟩ = some (.int .i64 d.kind) ∧ w'.cell? ⟨b', o' + j * 6 + 1, none⟩ = some (.int .i64 d.n) ∧ w'.cell? ⟨b', o' + j * 6 + 2, none⟩ = some (.string d.name) ∧ w'.cell? ⟨b', o' + j * 6 + 3, none⟩ = some (.int .i64 d.stamp) ∧ w'.cell? ⟨b', o' + j * 6 + 4, none⟩ = some (.int .i64 d.lib) ∧ w'.cell? ⟨b', o' + j * 6 + 5, none⟩ = some (.slice da' d.kids.length dc'))) (first | (with_reducible exact KB.out) | (with_reducible exact hc3) | exact KB.out | exact hc3) (first | (go_at_call 56; refine (TS.out _ (by exact Below.drew ((Below.refl _ _).alloc (Nat.le_refl _) _))).mono ?_; rintro e w3 ⟨o3, hf3, rfl, hm3⟩; have hc3 := SK.out w3 o3 hf3))
              all_goals
                have HF3 : Hid (Fr mb o o3 w1 w3) := (HR.out.1.trans (Fr.of_below (Below.drew ((Below.refl _ _).alloc (Nat.le_refl _) _)))).trans hf3
                have HN3 : Hid (Met mb B g2 (L + sizeL (ds.take (j + 1))) m3 o3 w3 ∧ fitA lits ahead ds m = fitA lits (ahead.drop (j + 1)) (ds.drop (j + 1)) m3) := ⟨hm3, HR.out.2.2.trans HZ.out.2.2⟩
                clear hm3 hf3 hc3 n0 n1 p0c p1c p2c p3c p4c p5c d0c d1c d2c d3c d4c d5c
                go_wp2_with fail
                go_roundw
                case rel => exact ⟨j + 1, m3, o3, by omega, by go_num, HF3.out, HN3.out.1, HN3.out.2⟩
                case measure => simp [intOf]; omega
          · obtain rfl : j = ahead.length := by omega
            have HA : Hid (fitA lits ahead ds m = some mj) := by
              show fitA lits ahead ds m = some mj
              rw [HR.out.2.2, List.drop_length, fitA]
            have HRS : Hid (R = some mj) := by
              show R = some mj
              rw [HE.out, HA.out]
              rfl
            have HMM : Hid (Met mb B gd (L + sizeL ds) mj oj wr) := by
              have h := HR.out.2.1
              rw [List.take_of_length_le (by omega)] at h
              exact h
            have hsub : ds.length - ahead.length = 0 := by omega
            clear n0 n1 hL2 hp2 hd2
            go_wp2_with fail
            all_goals
              go_loopw [56] (fun i wz => i = .int .i64 0 ∧ Fr mb o oj w1 wz ∧ Met mb B gd (L + sizeL ds) mj oj wz) (fun _ _ => 0)
              case atStart => exact ⟨rfl, HR.out.1, HMM.out⟩
              case round =>
                obtain ⟨rfl, hfr, hmr⟩ := hrel
                have HZ : Hid (Fr mb o oj w1 wr ∧ Met mb B gd (L + sizeL ds) mj oj wr) := ⟨hfr, hmr⟩
                clear hfr hmr
                go_wp2_with fail
                go_ret
                exact ⟨oj, H1F.out.trans HZ.out.1, by rw [HRS.out]; exact ⟨rfl, HZ.out.2⟩⟩
      | some p0 =>
        clear h2
        have HG0' := HG0
        clear HG0
        go_enter Tryz.func32, Tryz.ntmps32
        go_wp2_with fail
        refine (DT.out _ ((Below.refl _ _).alloc (Nat.le_refl _) _)).mono ?_
        rintro e w1 ⟨hb1, rfl⟩
        obtain ⟨hbx, hb0⟩ := HBX.out w1 hb1
        have H1 : Hid (w1.heap[w.heap.size]? = some (.cells #[.map (some lb), .map (some mb)] 71 (0, 0)) ∧ Below w.heap.size w w1) := ⟨hbx, hb0⟩
        have H1F : Hid (Fr mb o o w w1) := Fr.of_below hb0
        have HG0 : Hid (Met mb B gd L m o w1 ∧ True) := ⟨HG0'.out w1 hb0, trivial⟩
        have HG : Hid (∀ (oj : Nat → Prop) (wr : World), Fr mb o oj w1 wr → wr.cell? ⟨w.heap.size, 0, none⟩ = some (.map (some lb)) ∧ wr.cell? ⟨w.heap.size, 1, none⟩ = some (.map (some mb)) ∧ LitM lb lits wr ∧ LC B wr (gp + 1) (some ⟨b, of, none⟩) ps ∧ LC B wr (gd + 1) (some ⟨b', o', none⟩) ds ∧ w.heap.size + 1 ≤ wr.heap.size) := by
          intro oj wr hf
          have hz := (Array.getElem?_eq_some_iff.1 hbx).1
          have hn : wr.heap[w.heap.size]? = some (.cells #[.map (some lb), .map (some mb)] 71 (0, 0)) := (hf.same _ hz (by omega) (fun q => by have := OW.out _ q; omega)).trans hbx
          have hbb : Below B w wr := (hb0.mono (by omega)).trans (hf.below (fun k hk => (OW.out k hk).1) hB (by have := hb0.size; omega))
          exact ⟨by simp [World.cell?, hn], by simp [World.cell?, hn], (HH.out.1.below hb0).kept (hf.same lb (by have := hb0.size; omega) (by omega) (fun q => by have := OW.out _ q; omega)), HH.out.2.2.1.below hbb, HH.out.2.2.2.1.below hbb, by have := hf.size; omega⟩
        clear hb1 hbx hb0 HG0'
        unfold restV
        by_cases h5 : ahead.length < ds.length
        · have h5' : decide ((ahead.length : Int) < (ds.length : Int)) = true := by simp; omega
          have hdca : ahead.length < dc := by omega
          go_wp2_with fail
          go_loopw [37] (fun i wr => ∃ (j : Nat) (mj : ByteArray → List Dat) (oj : Nat → Prop), j ≤ ahead.length ∧ i = .int .i64 j ∧ Fr mb o oj w1 wr ∧ Met mb B gd (L + sizeL (ds.take j)) mj oj wr ∧ fitA lits ahead ds m = fitA lits (ahead.drop j) (ds.drop j) mj) (fun i _ => ahead.length - (intOf i).toNat)
          case atStart => exact ⟨0, m, o, Nat.zero_le _, rfl, Fr.refl _ _ _, by simpa [sizeL] using HG0.out.1, rfl⟩
          case round =>
            obtain ⟨j, mj, oj, hj, rfl, hfr, hmr, hea⟩ := hrel
            have HR : Hid (Fr mb o oj w1 wr ∧ Met mb B gd (L + sizeL (ds.take j)) mj oj wr ∧ fitA lits ahead ds m = fitA lits (ahead.drop j) (ds.drop j) mj) := ⟨hfr, hmr, hea⟩
            obtain ⟨n0, n1, hL2, hp2, hd2, hNz⟩ := HG.out oj wr hfr
            clear hfr hmr hea
            by_cases hlt : j < ahead.length
            · obtain ⟨p, hpj⟩ : ∃ p, ahead[j]? = some p := ⟨ahead[j], List.getElem?_eq_getElem hlt⟩
              obtain ⟨d, hdj⟩ : ∃ d, ds[j]? = some d := ⟨ds[j]'(by omega), List.getElem?_eq_getElem _⟩
              obtain ⟨g1, b1, o1, hg1, ha1, hb1B, hall1⟩ := hp2.at (by intro e; have := HH.out.2.2.2.2.atA j p hpj; rw [e] at this; simp at this)
              cases ha1
              obtain ⟨pa', pc', p0c, p1c, p2c, p3c, p4c, p5c, hpn, hpcc, hpk⟩ := hall1 j p (HH.out.2.2.2.2.atA j p hpj)
              obtain ⟨g2, b2, o2, hg2, ha2, hb2B, hall2⟩ := hd2.at (by intro e; rw [e] at hdj; simp at hdj)
              cases ha2
              obtain ⟨da', dc', d0c, d1c, d2c, d3c, d4c, d5c, hdn, hdcc, hdk⟩ := hall2 j d hdj
              have hg1' : g1 = gp := by omega
              have hg2' : g2 = gd := by omega
              subst hg1'
              subst hg2'
              have HZ : Hid (sizeL (ds.take (j + 1)) = sizeL (ds.take j) + sizeD d ∧ sizeL (ds.take (j + 1)) ≤ sizeL ds ∧ fitA lits (ahead.drop j) (ds.drop j) mj = (fitD lits p d mj).bind fun m => fitA lits (ahead.drop (j + 1)) (ds.drop (j + 1)) m) := ⟨sizeL_take hdj, sizeL_part _ _, fitA_at hpj hdj mj⟩
              have TH : Hid (∀ W', Below wr.heap.size wr W' → Calls Tryz.prog 56 #[fitv lb mb, dv p pa' pc', dv d da' dc'] W' (ToldF mb B g2 (L + sizeL (ds.take (j + 1))) oj (fitD lits p d mj) W')) := fun W' hb => by
                have h := IH.out p d pa' da' pc' dc' (L + sizeL (ds.take j)) mj oj W' hpn hdn hpcc hdcc (hpk.below (hb.mono (by omega))) (hdk.below (hb.mono (by omega))) (HH.out.2.2.2.2.okA p (List.mem_of_getElem? hpj)) (hL2.below hb) (HR.out.2.1.below (by omega) hb) (by have := HZ.out; omega)
                rw [HZ.out.1, ← Nat.add_assoc]
                exact h
              unfold fitv dv at TH
              generalize fitD lits p d mj = r at TH HZ
              have hz1 : w.heap.size < wr.heap.size := by omega
              have hz2 : b' < wr.heap.size := by omega
              have KB : Hid ((wr.alloc (.cells #[.int .i64 p.kind, .int .i64 p.n, .string p.name, .int .i64 p.stamp, .int .i64 p.lib, .slice pa' p.kids.length pc'] 28)).cell? ⟨w.heap.size, 0, none⟩ = some (.map (some lb)) ∧ (wr.alloc (.cells #[.int .i64 p.kind, .int .i64 p.n, .string p.name, .int .i64 p.stamp, .int .i64 p.lib, .slice pa' p.kids.length pc'] 28)).cell? ⟨w.heap.size, 1, none⟩ = some (.map (some mb)) ∧ (wr.alloc (.cells #[.int .i64 p.kind, .int .i64 p.n, .string p.name, .int .i64 p.stamp, .int .i64 p.lib, .slice pa' p.kids.length pc'] 28)).cell? ⟨wr.heap.size, 0, none⟩ = some (.int .i64 p.kind) ∧ (wr.alloc (.cells #[.int .i64 p.kind, .int .i64 p.n, .string p.name, .int .i64 p.stamp, .int .i64 p.lib, .slice pa' p.kids.length pc'] 28)).cell? ⟨wr.heap.size, 1, none⟩ = some (.int .i64 p.n) ∧ (wr.alloc (.cells #[.int .i64 p.kind, .int .i64 p.n, .string p.name, .int .i64 p.stamp, .int .i64 p.lib, .slice pa' p.kids.length pc'] 28)).cell? ⟨wr.heap.size, 2, none⟩ = some (.string p.name) ∧ (wr.alloc (.cells #[.int .i64 p.kind, .int .i64 p.n, .string p.name, .int .i64 p.stamp, .int .i64 p.lib, .slice pa' p.kids.length pc'] 28)).cell? ⟨wr.heap.size, 3, none⟩ = some (.int .i64 p.stamp) ∧ (wr.alloc (.cells #[.int .i64 p.kind, .int .i64 p.n, .string p.name, .int .i64 p.stamp, .int .i64 p.lib, .slice pa' p.kids.length pc'] 28)).cell? ⟨wr.heap.size, 4, none⟩ = some (.int .i64 p.lib) ∧ (wr.alloc (.cells #[.int .i64 p.kind, .int .i64 p.n, .string p.name, .int .i64 p.stamp, .int .i64 p.lib, .slice pa' p.kids.length pc'] 28)).cell? ⟨wr.heap.size, 5, none⟩ = some (.slice pa' p.kids.length pc') ∧ (wr.alloc (.cells #[.int .i64 p.kind, .int .i64 p.n, .string p.name, .int .i64 p.stamp, .int .i64 p.lib, .slice pa' p.kids.length pc'] 28)).cell? ⟨b', o' + j * 6, none⟩ = some (.int .i64 d.kind) ∧ (wr.alloc (.cells #[.int .i64 p.kind, .int .i64 p.n, .string p.name, .int .i64 p.stamp, .int .i64 p.lib, .slice pa' p.kids.length pc'] 28)).cell? ⟨b', o' + j * 6 + 1, none⟩ = some (.int .i64 d.n) ∧ (wr.alloc (.cells #[.int .i64 p.kind, .int .i64 p.n, .string p.name, .int .i64 p.stamp, .int .i64 p.lib, .slice pa' p.kids.length pc'] 28)).cell? ⟨b', o' + j * 6 + 2, none⟩ = some (.string d.name) ∧ (wr.alloc (.cells #[.int .i64 p.kind, .int .i64 p.n, .string p.name, .int .i64 p.stamp, .int .i64 p.lib, .slice pa' p.kids.length pc'] 28)).cell? ⟨b', o' + j * 6 + 3, none⟩ = some (.int .i64 d.stamp) ∧ (wr.alloc (.cells #[.int .i64 p.kind, .int .i64 p.n, .string p.name, .int .i64 p.stamp, .int .i64 p.lib, .slice pa' p.kids.length pc'] 28)).cell? ⟨b', o' + j * 6 + 4, none⟩ = some (.int .i64 d.lib) ∧ (wr.alloc (.cells #[.int .i64 p.kind, .int .i64 p.n, .string p.name, .int .i64 p.stamp, .int .i64 p.lib, .slice pa' p.kids.length pc'] 28)).cell? ⟨b', o' + j * 6 + 5, none⟩ = some (.slice da' d.kids.length dc')) := by
                have eb : Below wr.heap.size wr (wr.alloc (.cells #[.int .i64 p.kind, .int .i64 p.n, .string p.name, .int .i64 p.stamp, .int .i64 p.lib, .slice pa' p.kids.length pc'] 28)) := (Below.refl _ _).alloc (Nat.le_refl _) _
                have en : ∀ q, (wr.alloc (.cells #[.int .i64 p.kind, .int .i64 p.n, .string p.name, .int .i64 p.stamp, .int .i64 p.lib, .slice pa' p.kids.length pc'] 28)).cell? ⟨w.heap.size, q, none⟩ = wr.cell? ⟨w.heap.size, q, none⟩ := fun q => eb.cell (p := ⟨w.heap.size, q, none⟩) hz1
                have ed : ∀ q, (wr.alloc (.cells #[.int .i64 p.kind, .int .i64 p.n, .string p.name, .int .i64 p.stamp, .int .i64 p.lib, .slice pa' p.kids.length pc'] 28)).cell? ⟨b', q, none⟩ = wr.cell? ⟨b', q, none⟩ := fun q => eb.cell (p := ⟨b', q, none⟩) hz2
                have ex := fun q => World.cell?_alloc_mark wr #[.int .i64 p.kind, .int .i64 p.n, .string p.name, .int .i64 p.stamp, .int .i64 p.lib, .slice pa' p.kids.length pc'] 28 (0, 0) q
                exact ⟨(en 0).trans n0, (en 1).trans n1, ex 0, ex 1, ex 2, ex 3, ex 4, ex 5, (ed _).trans d0c, (ed _).trans d1c, (ed _).trans d2c, (ed _).trans d3c, (ed _).trans d4c, (ed _).trans d5c⟩
              have SK : Hid (∀ (w3 : World) (o3 : Nat → Prop), Fr mb oj o3 (wr.alloc (.cells #[.int .i64 p.kind, .int .i64 p.n, .string p.name, .int .i64 p.stamp, .int .i64 p.lib, .slice pa' p.kids.length pc'] 28)).drew w3 → (w3.cell? ⟨w.heap.size, 0, none⟩ = some (.map (some lb)) ∧ w3.cell? ⟨w.heap.size, 1, none⟩ = some (.map (some mb)) ∧ w3.cell? ⟨wr.heap.size, 0, none⟩ = some (.int .i64 p.kind) ∧ w3.cell? ⟨wr.heap.size, 1, none⟩ = some (.int .i64 p.n) ∧ w3.cell? ⟨wr.heap.size, 2, none⟩ = some (.string p.name) ∧ w3.cell? ⟨wr.heap.size, 3, none⟩ = some (.int .i64 p.stamp) ∧ w3.cell? ⟨wr.heap.size, 4, none⟩ = some (.int .i64 p.lib) ∧ w3.cell? ⟨wr.heap.size, 5, none⟩ = some (.slice pa' p.kids.length pc') ∧ w3.cell? ⟨b', o' + j * 6, none⟩ = some (.int .i64 d.kind) ∧ w3.cell? ⟨b', o' + j * 6 + 1, none⟩ = some (.int .i64 d.n) ∧ w3.cell? ⟨b', o' + j * 6 + 2, none⟩ = some (.string d.name) ∧ w3.cell? ⟨b', o' + j * 6 + 3, none⟩ = some (.int .i64 d.stamp) ∧ w3.cell? ⟨b', o' + j * 6 + 4, none⟩ = some (.int .i64 d.lib) ∧ w3.cell? ⟨b', o' + j * 6 + 5, none⟩ = some (.slice da' d.kids.length dc'))) := by
                intro w3 o3 hf
                have hown : ∀ k, oj k → mb < k ∧ k < wr.heap.size := fun k hk => HR.out.2.1.own hk
                have hNo : ¬ oj w.heap.size := fun q => by
                  rcases HR.out.1.fresh _ q with q | q
                  · have := OW.out _ q; omega
                  · have := (Array.getElem?_eq_some_iff.1 H1.out.1).1; omega
                have eN : ∀ q, w3.cell? ⟨w.heap.size, q, none⟩ = (wr.alloc (.cells #[.int .i64 p.kind, .int .i64 p.n, .string p.name, .int .i64 p.stamp, .int .i64 p.lib, .slice pa' p.kids.length pc'] 28)).cell? ⟨w.heap.size, q, none⟩ := fun q => World.cell?_of_block (a := ⟨w.heap.size, q, none⟩) (hf.same w.heap.size (by simp; omega) (by omega) hNo)
                have eX : ∀ q, w3.cell? ⟨wr.heap.size, q, none⟩ = (wr.alloc (.cells #[.int .i64 p.kind, .int .i64 p.n, .string p.name, .int .i64 p.stamp, .int .i64 p.lib, .slice pa' p.kids.length pc'] 28)).cell? ⟨wr.heap.size, q, none⟩ := fun q => World.cell?_of_block (a := ⟨wr.heap.size, q, none⟩) (hf.same wr.heap.size (by simp) (by omega) (fun q => by have := hown _ q; omega))
                have eD : ∀ q, w3.cell? ⟨b', q, none⟩ = (wr.alloc (.cells #[.int .i64 p.kind, .int .i64 p.n, .string p.name, .int .i64 p.stamp, .int .i64 p.lib, .slice pa' p.kids.length pc'] 28)).cell? ⟨b', q, none⟩ := fun q => World.cell?_of_block (a := ⟨b', q, none⟩) (hf.same b' (by simp; omega) (by omega) (fun q => by have := hown _ q; omega))
                obtain ⟨s0, s1, x0, x1, x2, x3, x4, x5, y0, y1, y2, y3, y4, y5⟩ := KB.out
                exact ⟨(eN 0).trans s0, (eN 1).trans s1, (eX 0).trans x0, (eX 1).trans x1, (eX 2).trans x2, (eX 3).trans x3, (eX 4).trans x4, (eX 5).trans x5, (eD _).trans y0, (eD _).trans y1, (eD _).trans y2, (eD _).trans y3, (eD _).trans y4, (eD _).trans y5⟩
              have hjd : (j : Int) < (ds.length : Int) := by omega
              have hjd2 : j < ds.length := by omega
              clear hpj hdj hall1 hall2 hpk hdk hpn hdn hpcc hdcc hL2 hp2 hd2 hg1 hg2 HBX
              cases r with
              | none =>
                have TN : Hid (∀ W', Below wr.heap.size wr W' → Calls Tryz.prog 56 _ W' fun e w' => ∃ o3, Fr mb oj o3 W' w' ∧ e = .returned (.bool false)) := TH.out
                have HRN : Hid (R = none) := by
                  show R = none
                  rw [HE.out, HR.out.2.2, HZ.out.2.2]
                  rfl
                clear TH
                go_wp2_with fail
                go_region_held3 (fun w' => (w'.cell? ⟨w.heap.size, 0, none⟩ = some (.map (some lb)) ∧ w'.cell? ⟨w.heap.size, 1, none⟩ = some (.map (some mb)) ∧ w'.cell? ⟨wr.heap.size, 0, none⟩ = some (.int .i64 p.kind) ∧ w'.cell? ⟨wr.heap.size, 1, none⟩ = some (.int .i64 p.n) ∧ w'.cell? ⟨wr.heap.size, 2, none⟩ = some (.string p.name) ∧ w'.cell? ⟨wr.heap.size, 3, none⟩ = some (.int .i64 p.stamp) ∧ w'.cell? ⟨wr.heap.size, 4, none⟩ = some (.int .i64 p.lib) ∧ w'.cell? ⟨wr.heap.size, 5, none⟩ = some (.slice pa' p.kids.length pc') ∧ w'.cell? ⟨b', o' + j * 6, none⟩ = some (.int .i64 d.kind) ∧ w'.cell? ⟨b', o' + j * 6 + 1, none⟩ = some (.int .i64 d.n) ∧ w'.cell? ⟨b', o' + j * 6 + 2, none⟩ = some (.string d.name) ∧ w'.cell? ⟨b', o' + j * 6 + 3, none⟩ = some (.int .i64 d.stamp) ∧ w'.cell? ⟨b', o' + j * 6 + 4, none⟩ = some (.int .i64 d.lib) ∧ w'.cell? ⟨b', o' + j * 6 + 5, none⟩ = some (.slice da' d.kids.length dc'))) (first | (with_reducible exact KB.out) | (with_reducible exact hc3) | exact KB.out | exact hc3) (first | (go_at_call 56; refine (TN.out _ (by exact Below.drew ((Below.refl _ _).alloc (Nat.le_refl _) _))).mono ?_; rintro e w3 ⟨o3, hf3, rfl⟩; have hc3 := SK.out w3 o3 hf3))
                all_goals
                  have HF3 : Hid (Fr mb o o3 w1 w3) := (HR.out.1.trans (Fr.of_below (Below.drew ((Below.refl _ _).alloc (Nat.le_refl _) _)))).trans hf3
                  clear hf3 hc3 n0 n1 p0c p1c p2c p3c p4c p5c d0c d1c d2c d3c d4c d5c
                  go_wp2_with fail
                  go_ret
                  exact ⟨o3, H1F.out.trans HF3.out, by rw [HRN.out]; rfl⟩
              | some m3 =>
                have TS : Hid (∀ W', Below wr.heap.size wr W' → Calls Tryz.prog 56 _ W' fun e w' => ∃ o3, Fr mb oj o3 W' w' ∧ e = .returned (.bool true) ∧ Met mb B g2 (L + sizeL (ds.take (j + 1))) m3 o3 w') := TH.out
                clear TH
                go_wp2_with fail
                go_region_held3 (fun w' => (w'.cell? ⟨w.heap.size, 0, none⟩ = some (.map (some lb)) ∧ w'.cell? ⟨w.heap.size, 1, none⟩ = some (.map (some mb)) ∧ w'.cell? ⟨wr.heap.size, 0, none⟩ = some (.int .i64 p.kind) ∧ w'.cell? ⟨wr.heap.size, 1, none⟩ = some (.int .i64 p.n) ∧ w'.cell? ⟨wr.heap.size, 2, none⟩ = some (.string p.name) ∧ w'.cell? ⟨wr.heap.size, 3, none⟩ = some (.int .i64 p.stamp) ∧ w'.cell? ⟨wr.heap.size, 4, none⟩ = some (.int .i64 p.lib) ∧ w'.cell? ⟨wr.heap.size, 5, none⟩ = some (.slice pa' p.kids.length pc') ∧ w'.cell? ⟨b', o' + j * 6, none⟩ = some (.int .i64 d.kind) ∧ w'.cell? ⟨b', o' + j * 6 + 1, none⟩ = some (.int .i64 d.n) ∧ w'.cell? ⟨b', o' + j * 6 + 2, none⟩ = some (.string d.name) ∧ w'.cell? ⟨b', o' + j * 6 + 3, none⟩ = some (.int .i64 d.stamp) ∧ w'.cell? ⟨b', o' + j * 6 + 4, none⟩ = some (.int .i64 d.lib) ∧ w'.cell? ⟨b', o' + j * 6 + 5, none⟩ = some (.slice da' d.kids.length dc'))) (first | (with_reducible exact KB.out) | (with_reducible exact hc3) | exact KB.out | exact hc3) (first | (go_at_call 56; refine (TS.out _ (by exact Below.drew ((Below.refl _ _).alloc (Nat.le_refl _) _))).mono ?_; rintro e w3 ⟨o3, hf3, rfl, hm3⟩; have hc3 := SK.out w3 o3 hf3))
                all_goals
                  have HF3 : Hid (Fr mb o o3 w1 w3) := (HR.out.1.trans (Fr.of_below (Below.drew ((Below.refl _ _).alloc (Nat.le_refl _) _)))).trans hf3
                  have HN3 : Hid (Met mb B g2 (L + sizeL (ds.take (j + 1))) m3 o3 w3 ∧ fitA lits ahead ds m = fitA lits (ahead.drop (j + 1)) (ds.drop (j + 1)) m3) := ⟨hm3, HR.out.2.2.trans HZ.out.2.2⟩
                  clear hm3 hf3 hc3 n0 n1 p0c p1c p2c p3c p4c p5c d0c d1c d2c d3c d4c d5c
                  go_wp2_with fail
                  go_roundw
                  case rel => exact ⟨j + 1, m3, o3, by omega, by go_num, HF3.out, HN3.out.1, HN3.out.2⟩
                  case measure => simp [intOf]; omega
            · obtain rfl : j = ahead.length := by omega
              have HA : Hid (fitA lits ahead ds m = some mj) := by
                show fitA lits ahead ds m = some mj
                rw [HR.out.2.2, List.drop_length, fitA]
              have HRE : Hid (R = (ds.drop ahead.length).foldlM (fun m d => fitD lits p0 d m) mj) := by
                show R = _
                rw [HE.out, HA.out]
                rfl
              clear n0 n1 hL2 hp2 hd2
              go_wp2_with fail
              go_loopw [56] (fun i wr => ∃ (k : Nat) (mk : ByteArray → List Dat) (ok : Nat → Prop), k ≤ ds.length - ahead.length ∧ i = .int .i64 k ∧ Fr mb o ok w1 wr ∧ Met mb B gd (L + sizeL (ds.take (ahead.length + k))) mk ok wr ∧ R = (ds.drop (ahead.length + k)).foldlM (fun m d => fitD lits p0 d m) mk) (fun i _ => (ds.length - ahead.length) - (intOf i).toNat)
              case atStart => exact ⟨0, mj, oj, Nat.zero_le _, rfl, HR.out.1, HR.out.2.1, HRE.out⟩
              case round =>
                clear HR HRE HA
                obtain ⟨k, mk, ok, hk, rfl, hfr, hmr, hea⟩ := hrel
                have HR : Hid (Fr mb o ok w1 wr ∧ Met mb B gd (L + sizeL (ds.take (ahead.length + k))) mk ok wr ∧ R = (ds.drop (ahead.length + k)).foldlM (fun m d => fitD lits p0 d m) mk) := ⟨hfr, hmr, hea⟩
                obtain ⟨n0, n1, hL2, hp2, hd2, hNz⟩ := HG.out ok wr hfr
                clear hfr hmr hea
                by_cases hlt : k < ds.length - ahead.length
                · obtain ⟨d, hdj⟩ : ∃ d, ds[ahead.length + k]? = some d := ⟨ds[ahead.length + k]'(by omega), List.getElem?_eq_getElem _⟩
                  obtain ⟨g1, b1, o1, hg1, ha1, hb1B, hall1⟩ := hp2.at (by intro e; have := HH.out.2.2.2.2.atR p0 rfl; rw [e] at this; simp at this)
                  cases ha1
                  obtain ⟨pa', pc', p0c, p1c, p2c, p3c, p4c, p5c, hpn, hpcc, hpk⟩ := hall1 ahead.length p0 (HH.out.2.2.2.2.atR p0 rfl)
                  obtain ⟨g2, b2, o2, hg2, ha2, hb2B, hall2⟩ := (hd2.drop ahead.length (by omega)).at (by intro e; have := congrArg List.length e; simp at this; omega)
                  cases ha2
                  obtain ⟨da', dc', d0c, d1c, d2c, d3c, d4c, d5c, hdn, hdcc, hdk⟩ := hall2 k d (by rw [List.getElem?_drop]; exact hdj)
                  have hg1' : g1 = gp := by omega
                  have hg2' : g2 = gd := by omega
                  subst hg1'
                  subst hg2'
                  have HZ : Hid (sizeL (ds.take (ahead.length + k + 1)) = sizeL (ds.take (ahead.length + k)) + sizeD d ∧ sizeL (ds.take (ahead.length + k + 1)) ≤ sizeL ds ∧ R = (fitD lits p0 d mk).bind fun m => (ds.drop (ahead.length + k + 1)).foldlM (fun m d => fitD lits p0 d m) m) := ⟨sizeL_take hdj, sizeL_part _ _, HR.out.2.2.trans (foldlM_at hdj mk)⟩
                  have TH : Hid (∀ W', Below wr.heap.size wr W' → Calls Tryz.prog 56 #[fitv lb mb, dv p0 pa' pc', dv d da' dc'] W' (ToldF mb B g2 (L + sizeL (ds.take (ahead.length + k + 1))) ok (fitD lits p0 d mk) W')) := fun W' hb => by
                    have h := IH.out p0 d pa' da' pc' dc' (L + sizeL (ds.take (ahead.length + k))) mk ok W' hpn hdn hpcc hdcc (hpk.below (hb.mono (by omega))) (hdk.below (hb.mono (by omega))) (HH.out.2.2.2.2.okR p0 rfl) (hL2.below hb) (HR.out.2.1.below (by omega) hb) (by have := HZ.out; omega)
                    rw [HZ.out.1, ← Nat.add_assoc]
                    exact h
                  unfold fitv dv at TH
                  generalize fitD lits p0 d mk = r at TH HZ
                  have hz1 : w.heap.size < wr.heap.size := by omega
                  have hz2 : b < wr.heap.size := by omega
                  have KB : Hid ((wr.alloc (.cells #[.int .i64 d.kind, .int .i64 d.n, .string d.name, .int .i64 d.stamp, .int .i64 d.lib, .slice da' d.kids.length dc'] 28)).cell? ⟨w.heap.size, 0, none⟩ = some (.map (some lb)) ∧ (wr.alloc (.cells #[.int .i64 d.kind, .int .i64 d.n, .string d.name, .int .i64 d.stamp, .int .i64 d.lib, .slice da' d.kids.length dc'] 28)).cell? ⟨w.heap.size, 1, none⟩ = some (.map (some mb)) ∧ (wr.alloc (.cells #[.int .i64 d.kind, .int .i64 d.n, .string d.name, .int .i64 d.stamp, .int .i64 d.lib, .slice da' d.kids.length dc'] 28)).cell? ⟨wr.heap.size, 0, none⟩ = some (.int .i64 d.kind) ∧ (wr.alloc (.cells #[.int .i64 d.kind, .int .i64 d.n, .string d.name, .int .i64 d.stamp, .int .i64 d.lib, .slice da' d.kids.length dc'] 28)).cell? ⟨wr.heap.size, 1, none⟩ = some (.int .i64 d.n) ∧ (wr.alloc (.cells #[.int .i64 d.kind, .int .i64 d.n, .string d.name, .int .i64 d.stamp, .int .i64 d.lib, .slice da' d.kids.length dc'] 28)).cell? ⟨wr.heap.size, 2, none⟩ = some (.string d.name) ∧ (wr.alloc (.cells #[.int .i64 d.kind, .int .i64 d.n, .string d.name, .int .i64 d.stamp, .int .i64 d.lib, .slice da' d.kids.length dc'] 28)).cell? ⟨wr.heap.size, 3, none⟩ = some (.int .i64 d.stamp) ∧ (wr.alloc (.cells #[.int .i64 d.kind, .int .i64 d.n, .string d.name, .int .i64 d.stamp, .int .i64 d.lib, .slice da' d.kids.length dc'] 28)).cell? ⟨wr.heap.size, 4, none⟩ = some (.int .i64 d.lib) ∧ (wr.alloc (.cells #[.int .i64 d.kind, .int .i64 d.n, .string d.name, .int .i64 d.stamp, .int .i64 d.lib, .slice da' d.kids.length dc'] 28)).cell? ⟨wr.heap.size, 5, none⟩ = some (.slice da' d.kids.length dc') ∧ (wr.alloc (.cells #[.int .i64 d.kind, .int .i64 d.n, .string d.name, .int .i64 d.stamp, .int .i64 d.lib, .slice da' d.kids.length dc'] 28)).cell? ⟨b, of + ahead.length * 6, none⟩ = some (.int .i64 p0.kind) ∧ (wr.alloc (.cells #[.int .i64 d.kind, .int .i64 d.n, .string d.name, .int .i64 d.stamp, .int .i64 d.lib, .slice da' d.kids.length dc'] 28)).cell? ⟨b, of + ahead.length * 6 + 1, none⟩ = some (.int .i64 p0.n) ∧ (wr.alloc (.cells #[.int .i64 d.kind, .int .i64 d.n, .string d.name, .int .i64 d.stamp, .int .i64 d.lib, .slice da' d.kids.length dc'] 28)).cell? ⟨b, of + ahead.length * 6 + 2, none⟩ = some (.string p0.name) ∧ (wr.alloc (.cells #[.int .i64 d.kind, .int .i64 d.n, .string d.name, .int .i64 d.stamp, .int .i64 d.lib, .slice da' d.kids.length dc'] 28)).cell? ⟨b, of + ahead.length * 6 + 3, none⟩ = some (.int .i64 p0.stamp) ∧ (wr.alloc (.cells #[.int .i64 d.kind, .int .i64 d.n, .string d.name, .int .i64 d.stamp, .int .i64 d.lib, .slice da' d.kids.length dc'] 28)).cell? ⟨b, of + ahead.length * 6 + 4, none⟩ = some (.int .i64 p0.lib) ∧ (wr.alloc (.cells #[.int .i64 d.kind, .int .i64 d.n, .string d.name, .int .i64 d.stamp, .int .i64 d.lib, .slice da' d.kids.length dc'] 28)).cell? ⟨b, of + ahead.length * 6 + 5, none⟩ = some (.slice pa' p0.kids.length pc')) := by
                    have eb : Below wr.heap.size wr (wr.alloc (.cells #[.int .i64 d.kind, .int .i64 d.n, .string d.name, .int .i64 d.stamp, .int .i64 d.lib, .slice da' d.kids.length dc'] 28)) := (Below.refl _ _).alloc (Nat.le_refl _) _
                    have en : ∀ q, (wr.alloc (.cells #[.int .i64 d.kind, .int .i64 d.n, .string d.name, .int .i64 d.stamp, .int .i64 d.lib, .slice da' d.kids.length dc'] 28)).cell? ⟨w.heap.size, q, none⟩ = wr.cell? ⟨w.heap.size, q, none⟩ := fun q => eb.cell (p := ⟨w.heap.size, q, none⟩) hz1
                    have ed : ∀ q, (wr.alloc (.cells #[.int .i64 d.kind, .int .i64 d.n, .string d.name, .int .i64 d.stamp, .int .i64 d.lib, .slice da' d.kids.length dc'] 28)).cell? ⟨b, q, none⟩ = wr.cell? ⟨b, q, none⟩ := fun q => eb.cell (p := ⟨b, q, none⟩) hz2
                    have ex := fun q => World.cell?_alloc_mark wr #[.int .i64 d.kind, .int .i64 d.n, .string d.name, .int .i64 d.stamp, .int .i64 d.lib, .slice da' d.kids.length dc'] 28 (0, 0) q
                    exact ⟨(en 0).trans n0, (en 1).trans n1, ex 0, ex 1, ex 2, ex 3, ex 4, ex 5, (ed _).trans p0c, (ed _).trans p1c, (ed _).trans p2c, (ed _).trans p3c, (ed _).trans p4c, (ed _).trans p5c⟩
                  have SK : Hid (∀ (w3 : World) (o3 : Nat → Prop), Fr mb ok o3 (wr.alloc (.cells #[.int .i64 d.kind, .int .i64 d.n, .string d.name, .int .i64 d.stamp, .int .i64 d.lib, .slice da' d.kids.length dc'] 28)).drew w3 → (w3.cell? ⟨w.heap.size, 0, none⟩ = some (.map (some lb)) ∧ w3.cell? ⟨w.heap.size, 1, none⟩ = some (.map (some mb)) ∧ w3.cell? ⟨wr.heap.size, 0, none⟩ = some (.int .i64 d.kind) ∧ w3.cell? ⟨wr.heap.size, 1, none⟩ = some (.int .i64 d.n) ∧ w3.cell? ⟨wr.heap.size, 2, none⟩ = some (.string d.name) ∧ w3.cell? ⟨wr.heap.size, 3, none⟩ = some (.int .i64 d.stamp) ∧ w3.cell? ⟨wr.heap.size, 4, none⟩ = some (.int .i64 d.lib) ∧ w3.cell? ⟨wr.heap.size, 5, none⟩ = some (.slice da' d.kids.length dc') ∧ w3.cell? ⟨b, of + ahead.length * 6, none⟩ = some (.int .i64 p0.kind) ∧ w3.cell? ⟨b, of + ahead.length * 6 + 1, none⟩ = some (.int .i64 p0.n) ∧ w3.cell? ⟨b, of + ahead.length * 6 + 2, none⟩ = some (.string p0.name) ∧ w3.cell? ⟨b, of + ahead.length * 6 + 3, none⟩ = some (.int .i64 p0.stamp) ∧ w3.cell? ⟨b, of + ahead.length * 6 + 4, none⟩ = some (.int .i64 p0.lib) ∧ w3.cell? ⟨b, of + ahead.length * 6 + 5, none⟩ = some (.slice pa' p0.kids.length pc'))) := by
                    intro w3 o3 hf
                    have hown : ∀ k, ok k → mb < k ∧ k < wr.heap.size := fun k hk => HR.out.2.1.own hk
                    have hNo : ¬ ok w.heap.size := fun q => by
                      rcases HR.out.1.fresh _ q with q | q
                      · have := OW.out _ q; omega
                      · have := (Array.getElem?_eq_some_iff.1 H1.out.1).1; omega
                    have eN : ∀ q, w3.cell? ⟨w.heap.size, q, none⟩ = (wr.alloc (.cells #[.int .i64 d.kind, .int .i64 d.n, .string d.name, .int .i64 d.stamp, .int .i64 d.lib, .slice da' d.kids.length dc'] 28)).cell? ⟨w.heap.size, q, none⟩ := fun q => World.cell?_of_block (a := ⟨w.heap.size, q, none⟩) (hf.same w.heap.size (by simp; omega) (by omega) hNo)
                    have eX : ∀ q, w3.cell? ⟨wr.heap.size, q, none⟩ = (wr.alloc (.cells #[.int .i64 d.kind, .int .i64 d.n, .string d.name, .int .i64 d.stamp, .int .i64 d.lib, .slice da' d.kids.length dc'] 28)).cell? ⟨wr.heap.size, q, none⟩ := fun q => World.cell?_of_block (a := ⟨wr.heap.size, q, none⟩) (hf.same wr.heap.size (by simp) (by omega) (fun q => by have := hown _ q; omega))
                    have eD : ∀ q, w3.cell? ⟨b, q, none⟩ = (wr.alloc (.cells #[.int .i64 d.kind, .int .i64 d.n, .string d.name, .int .i64 d.stamp, .int .i64 d.lib, .slice da' d.kids.length dc'] 28)).cell? ⟨b, q, none⟩ := fun q => World.cell?_of_block (a := ⟨b, q, none⟩) (hf.same b (by simp; omega) (by omega) (fun q => by have := hown _ q; omega))
                    obtain ⟨s0, s1, x0, x1, x2, x3, x4, x5, y0, y1, y2, y3, y4, y5⟩ := KB.out
                    exact ⟨(eN 0).trans s0, (eN 1).trans s1, (eX 0).trans x0, (eX 1).trans x1, (eX 2).trans x2, (eX 3).trans x3, (eX 4).trans x4, (eX 5).trans x5, (eD _).trans y0, (eD _).trans y1, (eD _).trans y2, (eD _).trans y3, (eD _).trans y4, (eD _).trans y5⟩
                  clear hdj hall1 hall2 hpk hdk hpn hdn hpcc hdcc hL2 hp2 hd2 hg1 hg2 HBX
                  cases r with
                  | none =>
                    have TN : Hid (∀ W', Below wr.heap.size wr W' → Calls Tryz.prog 56 _ W' fun e w' => ∃ o3, Fr mb ok o3 W' w' ∧ e = .returned (.bool false)) := TH.out
                    have HRN : Hid (R = none) := HZ.out.2.2
                    clear TH
                    go_wp2_with fail
                    go_region_held3 (fun w' => (w'.cell? ⟨w.heap.size, 0, none⟩ = some (.map (some lb)) ∧ w'.cell? ⟨w.heap.size, 1, none⟩ = some (.map (some mb)) ∧ w'.cell? ⟨wr.heap.size, 0, none⟩ = some (.int .i64 d.kind) ∧ w'.cell? ⟨wr.heap.size, 1, none⟩ = some (.int .i64 d.n) ∧ w'.cell? ⟨wr.heap.size, 2, none⟩ = some (.string d.name) ∧ w'.cell? ⟨wr.heap.size, 3, none⟩ = some (.int .i64 d.stamp) ∧ w'.cell? ⟨wr.heap.size, 4, none⟩ = some (.int .i64 d.lib) ∧ w'.cell? ⟨wr.heap.size, 5, none⟩ = some (.slice da' d.kids.length dc') ∧ w'.cell? ⟨b, of + ahead.length * 6, none⟩ = some (.int .i64 p0.kind) ∧ w'.cell? ⟨b, of + ahead.length * 6 + 1, none⟩ = some (.int .i64 p0.n) ∧ w'.cell? ⟨b, of + ahead.length * 6 + 2, none⟩ = some (.string p0.name) ∧ w'.cell? ⟨b, of + ahead.length * 6 + 3, none⟩ = some (.int .i64 p0.stamp) ∧ w'.cell? ⟨b, of + ahead.length * 6 + 4, none⟩ = some (.int .i64 p0.lib) ∧ w'.cell? ⟨b, of + ahead.length * 6 + 5, none⟩ = some (.slice pa' p0.kids.length pc'))) (first | (with_reducible exact KB.out) | (with_reducible exact hc3) | exact KB.out | exact hc3) (first | (go_at_call 56; refine (TN.out _ (by exact Below.drew ((Below.refl _ _).alloc (Nat.le_refl _) _))).mono ?_; rintro e w3 ⟨o3, hf3, rfl⟩; have hc3 := SK.out w3 o3 hf3))
                    all_goals
                      have HF3 : Hid (Fr mb o o3 w1 w3) := (HR.out.1.trans (Fr.of_below (Below.drew ((Below.refl _ _).alloc (Nat.le_refl _) _)))).trans hf3
                      clear hf3 hc3 n0 n1 p0c p1c p2c p3c p4c p5c d0c d1c d2c d3c d4c d5c
                      go_wp2_with fail
                      go_ret
                      exact ⟨o3, H1F.out.trans HF3.out, by rw [HRN.out]; rfl⟩
                  | some m3 =>
                    have TS : Hid (∀ W', Below wr.heap.size wr W' → Calls Tryz.prog 56 _ W' fun e w' => ∃ o3, Fr mb ok o3 W' w' ∧ e = .returned (.bool true) ∧ Met mb B g2 (L + sizeL (ds.take (ahead.length + k + 1))) m3 o3 w') := TH.out
                    clear TH
                    go_wp2_with fail
                    go_region_held3 (fun w' => (w'.cell? ⟨w.heap.size, 0, none⟩ = some (.map (some lb)) ∧ w'.cell? ⟨w.heap.size, 1, none⟩ = some (.map (some mb)) ∧ w'.cell? ⟨wr.heap.size, 0, none⟩ = some (.int .i64 d.kind) ∧ w'.cell? ⟨wr.heap.size, 1, none⟩ = some (.int .i64 d.n) ∧ w'.cell? ⟨wr.heap.size, 2, none⟩ = some (.string d.name) ∧ w'.cell? ⟨wr.heap.size, 3, none⟩ = some (.int .i64 d.stamp) ∧ w'.cell? ⟨wr.heap.size, 4, none⟩ = some (.int .i64 d.lib) ∧ w'.cell? ⟨wr.heap.size, 5, none⟩ = some (.slice da' d.kids.length dc') ∧ w'.cell? ⟨b, of + ahead.length * 6, none⟩ = some (.int .i64 p0.kind) ∧ w'.cell? ⟨b, of + ahead.length * 6 + 1, none⟩ = some (.int .i64 p0.n) ∧ w'.cell? ⟨b, of + ahead.length * 6 + 2, none⟩ = some (.string p0.name) ∧ w'.cell? ⟨b, of + ahead.length * 6 + 3, none⟩ = some (.int .i64 p0.stamp) ∧ w'.cell? ⟨b, of + ahead.length * 6 + 4, none⟩ = some (.int .i64 p0.lib) ∧ w'.cell? ⟨b, of + ahead.length * 6 + 5, none⟩ = some (.slice pa' p0.kids.length pc'))) (first | (with_reducible exact KB.out) | (with_reducible exact hc3) | exact KB.out | exact hc3) (first | (go_at_call 56; refine (TS.out _ (by exact Below.drew ((Below.refl _ _).alloc (Nat.le_refl _) _))).mono ?_; rintro e w3 ⟨o3, hf3, rfl, hm3⟩; have hc3 := SK.out w3 o3 hf3))
                    all_goals
                      have HF3 : Hid (Fr mb o o3 w1 w3) := (HR.out.1.trans (Fr.of_below (Below.drew ((Below.refl _ _).alloc (Nat.le_refl _) _)))).trans hf3
                      have HN3 : Hid (Met mb B g2 (L + sizeL (ds.take (ahead.length + (k + 1)))) m3 o3 w3 ∧ R = (ds.drop (ahead.length + (k + 1))).foldlM (fun m d => fitD lits p0 d m) m3) := ⟨hm3, HZ.out.2.2⟩
                      clear hm3 hf3 hc3 n0 n1 p0c p1c p2c p3c p4c p5c d0c d1c d2c d3c d4c d5c
                      go_wp2_with fail
                      go_roundw
                      case rel => exact ⟨k + 1, m3, o3, by omega, by go_num, HF3.out, HN3.out.1, HN3.out.2⟩
                      case measure => simp [intOf]; omega
                · have hk' : k = ds.length - ahead.length := by omega
                  have HRS : Hid (R = some mk) := by
                    show R = some mk
                    rw [HR.out.2.2, List.drop_eq_nil_of_le (by omega)]
                    rfl
                  have HMM : Hid (Met mb B gd (L + sizeL ds) mk ok wr) := by
                    have h := HR.out.2.1
                    rw [List.take_of_length_le (by omega)] at h
                    exact h
                  subst hk'
                  go_wp2_with fail
                  go_ret
                  exact ⟨ok, H1F.out.trans HR.out.1, by rw [HRS.out]; exact ⟨rfl, HMM.out⟩⟩
        · have h5' : decide ((ahead.length : Int) < (ds.length : Int)) = false := by simp; omega
          go_wp2_with fail
          go_loopw [37] (fun i wr => ∃ (j : Nat) (mj : ByteArray → List Dat) (oj : Nat → Prop), j ≤ ahead.length ∧ i = .int .i64 j ∧ Fr mb o oj w1 wr ∧ Met mb B gd (L + sizeL (ds.take j)) mj oj wr ∧ fitA lits ahead ds m = fitA lits (ahead.drop j) (ds.drop j) mj) (fun i _ => ahead.length - (intOf i).toNat)
          case atStart => exact ⟨0, m, o, Nat.zero_le _, rfl, Fr.refl _ _ _, by simpa [sizeL] using HG0.out.1, rfl⟩
          case round =>
            obtain ⟨j, mj, oj, hj, rfl, hfr, hmr, hea⟩ := hrel
            have HR : Hid (Fr mb o oj w1 wr ∧ Met mb B gd (L + sizeL (ds.take j)) mj oj wr ∧ fitA lits ahead ds m = fitA lits (ahead.drop j) (ds.drop j) mj) := ⟨hfr, hmr, hea⟩
            obtain ⟨n0, n1, hL2, hp2, hd2, hNz⟩ := HG.out oj wr hfr
            clear hfr hmr hea
            by_cases hlt : j < ahead.length
            · obtain ⟨p, hpj⟩ : ∃ p, ahead[j]? = some p := ⟨ahead[j], List.getElem?_eq_getElem hlt⟩
              obtain ⟨d, hdj⟩ : ∃ d, ds[j]? = some d := ⟨ds[j]'(by omega), List.getElem?_eq_getElem _⟩
              obtain ⟨g1, b1, o1, hg1, ha1, hb1B, hall1⟩ := hp2.at (by intro e; have := HH.out.2.2.2.2.atA j p hpj; rw [e] at this; simp at this)
              cases ha1
              obtain ⟨pa', pc', p0c, p1c, p2c, p3c, p4c, p5c, hpn, hpcc, hpk⟩ := hall1 j p (HH.out.2.2.2.2.atA j p hpj)
              obtain ⟨g2, b2, o2, hg2, ha2, hb2B, hall2⟩ := hd2.at (by intro e; rw [e] at hdj; simp at hdj)
              cases ha2
              obtain ⟨da', dc', d0c, d1c, d2c, d3c, d4c, d5c, hdn, hdcc, hdk⟩ := hall2 j d hdj
              have hg1' : g1 = gp := by omega
              have hg2' : g2 = gd := by omega
              subst hg1'
              subst hg2'
              have HZ : Hid (sizeL (ds.take (j + 1)) = sizeL (ds.take j) + sizeD d ∧ sizeL (ds.take (j + 1)) ≤ sizeL ds ∧ fitA lits (ahead.drop j) (ds.drop j) mj = (fitD lits p d mj).bind fun m => fitA lits (ahead.drop (j + 1)) (ds.drop (j + 1)) m) := ⟨sizeL_take hdj, sizeL_part _ _, fitA_at hpj hdj mj⟩
              have TH : Hid (∀ W', Below wr.heap.size wr W' → Calls Tryz.prog 56 #[fitv lb mb, dv p pa' pc', dv d da' dc'] W' (ToldF mb B g2 (L + sizeL (ds.take (j + 1))) oj (fitD lits p d mj) W')) := fun W' hb => by
                have h := IH.out p d pa' da' pc' dc' (L + sizeL (ds.take j)) mj oj W' hpn hdn hpcc hdcc (hpk.below (hb.mono (by omega))) (hdk.below (hb.mono (by omega))) (HH.out.2.2.2.2.okA p (List.mem_of_getElem? hpj)) (hL2.below hb) (HR.out.2.1.below (by omega) hb) (by have := HZ.out; omega)
                rw [HZ.out.1, ← Nat.add_assoc]
                exact h
              unfold fitv dv at TH
              generalize fitD lits p d mj = r at TH HZ
              have hz1 : w.heap.size < wr.heap.size := by omega
              have hz2 : b' < wr.heap.size := by omega
              have KB : Hid ((wr.alloc (.cells #[.int .i64 p.kind, .int .i64 p.n, .string p.name, .int .i64 p.stamp, .int .i64 p.lib, .slice pa' p.kids.length pc'] 28)).cell? ⟨w.heap.size, 0, none⟩ = some (.map (some lb)) ∧ (wr.alloc (.cells #[.int .i64 p.kind, .int .i64 p.n, .string p.name, .int .i64 p.stamp, .int .i64 p.lib, .slice pa' p.kids.length pc'] 28)).cell? ⟨w.heap.size, 1, none⟩ = some (.map (some mb)) ∧ (wr.alloc (.cells #[.int .i64 p.kind, .int .i64 p.n, .string p.name, .int .i64 p.stamp, .int .i64 p.lib, .slice pa' p.kids.length pc'] 28)).cell? ⟨wr.heap.size, 0, none⟩ = some (.int .i64 p.kind) ∧ (wr.alloc (.cells #[.int .i64 p.kind, .int .i64 p.n, .string p.name, .int .i64 p.stamp, .int .i64 p.lib, .slice pa' p.kids.length pc'] 28)).cell? ⟨wr.heap.size, 1, none⟩ = some (.int .i64 p.n) ∧ (wr.alloc (.cells #[.int .i64 p.kind, .int .i64 p.n, .string p.name, .int .i64 p.stamp, .int .i64 p.lib, .slice pa' p.kids.length pc'] 28)).cell? ⟨wr.heap.size, 2, none⟩ = some (.string p.name) ∧ (wr.alloc (.cells #[.int .i64 p.kind, .int .i64 p.n, .string p.name, .int .i64 p.stamp, .int .i64 p.lib, .slice pa' p.kids.length pc'] 28)).cell? ⟨wr.heap.size, 3, none⟩ = some (.int .i64 p.stamp) ∧ (wr.alloc (.cells #[.int .i64 p.kind, .int .i64 p.n, .string p.name, .int .i64 p.stamp, .int .i64 p.lib, .slice pa' p.kids.length pc'] 28)).cell? ⟨wr.heap.size, 4, none⟩ = some (.int .i64 p.lib) ∧ (wr.alloc (.cells #[.int .i64 p.kind, .int .i64 p.n, .string p.name, .int .i64 p.stamp, .int .i64 p.lib, .slice pa' p.kids.length pc'] 28)).cell? ⟨wr.heap.size, 5, none⟩ = some (.slice pa' p.kids.length pc') ∧ (wr.alloc (.cells #[.int .i64 p.kind, .int .i64 p.n, .string p.name, .int .i64 p.stamp, .int .i64 p.lib, .slice pa' p.kids.length pc'] 28)).cell? ⟨b', o' + j * 6, none⟩ = some (.int .i64 d.kind) ∧ (wr.alloc (.cells #[.int .i64 p.kind, .int .i64 p.n, .string p.name, .int .i64 p.stamp, .int .i64 p.lib, .slice pa' p.kids.length pc'] 28)).cell? ⟨b', o' + j * 6 + 1, none⟩ = some (.int .i64 d.n) ∧ (wr.alloc (.cells #[.int .i64 p.kind, .int .i64 p.n, .string p.name, .int .i64 p.stamp, .int .i64 p.lib, .slice pa' p.kids.length pc'] 28)).cell? ⟨b', o' + j * 6 + 2, none⟩ = some (.string d.name) ∧ (wr.alloc (.cells #[.int .i64 p.kind, .int .i64 p.n, .string p.name, .int .i64 p.stamp, .int .i64 p.lib, .slice pa' p.kids.length pc'] 28)).cell? ⟨b', o' + j * 6 + 3, none⟩ = some (.int .i64 d.stamp) ∧ (wr.alloc (.cells #[.int .i64 p.kind, .int .i64 p.n, .string p.name, .int .i64 p.stamp, .int .i64 p.lib, .slice pa' p.kids.length pc'] 28)).cell? ⟨b', o' + j * 6 + 4, none⟩ = some (.int .i64 d.lib) ∧ (wr.alloc (.cells #[.int .i64 p.kind, .int .i64 p.n, .string p.name, .int .i64 p.stamp, .int .i64 p.lib, .slice pa' p.kids.length pc'] 28)).cell? ⟨b', o' + j * 6 + 5, none⟩ = some (.slice da' d.kids.length dc')) := by
                have eb : Below wr.heap.size wr (wr.alloc (.cells #[.int .i64 p.kind, .int .i64 p.n, .string p.name, .int .i64 p.stamp, .int .i64 p.lib, .slice pa' p.kids.length pc'] 28)) := (Below.refl _ _).alloc (Nat.le_refl _) _
                have en : ∀ q, (wr.alloc (.cells #[.int .i64 p.kind, .int .i64 p.n, .string p.name, .int .i64 p.stamp, .int .i64 p.lib, .slice pa' p.kids.length pc'] 28)).cell? ⟨w.heap.size, q, none⟩ = wr.cell? ⟨w.heap.size, q, none⟩ := fun q => eb.cell (p := ⟨w.heap.size, q, none⟩) hz1
                have ed : ∀ q, (wr.alloc (.cells #[.int .i64 p.kind, .int .i64 p.n, .string p.name, .int .i64 p.stamp, .int .i64 p.lib, .slice pa' p.kids.length pc'] 28)).cell? ⟨b', q, none⟩ = wr.cell? ⟨b', q, none⟩ := fun q => eb.cell (p := ⟨b', q, none⟩) hz2
                have ex := fun q => World.cell?_alloc_mark wr #[.int .i64 p.kind, .int .i64 p.n, .string p.name, .int .i64 p.stamp, .int .i64 p.lib, .slice pa' p.kids.length pc'] 28 (0, 0) q
                exact ⟨(en 0).trans n0, (en 1).trans n1, ex 0, ex 1, ex 2, ex 3, ex 4, ex 5, (ed _).trans d0c, (ed _).trans d1c, (ed _).trans d2c, (ed _).trans d3c, (ed _).trans d4c, (ed _).trans d5c⟩
              have SK : Hid (∀ (w3 : World) (o3 : Nat → Prop), Fr mb oj o3 (wr.alloc (.cells #[.int .i64 p.kind, .int .i64 p.n, .string p.name, .int .i64 p.stamp, .int .i64 p.lib, .slice pa' p.kids.length pc'] 28)).drew w3 → (w3.cell? ⟨w.heap.size, 0, none⟩ = some (.map (some lb)) ∧ w3.cell? ⟨w.heap.size, 1, none⟩ = some (.map (some mb)) ∧ w3.cell? ⟨wr.heap.size, 0, none⟩ = some (.int .i64 p.kind) ∧ w3.cell? ⟨wr.heap.size, 1, none⟩ = some (.int .i64 p.n) ∧ w3.cell? ⟨wr.heap.size, 2, none⟩ = some (.string p.name) ∧ w3.cell? ⟨wr.heap.size, 3, none⟩ = some (.int .i64 p.stamp) ∧ w3.cell? ⟨wr.heap.size, 4, none⟩ = some (.int .i64 p.lib) ∧ w3.cell? ⟨wr.heap.size, 5, none⟩ = some (.slice pa' p.kids.length pc') ∧ w3.cell? ⟨b', o' + j * 6, none⟩ = some (.int .i64 d.kind) ∧ w3.cell? ⟨b', o' + j * 6 + 1, none⟩ = some (.int .i64 d.n) ∧ w3.cell? ⟨b', o' + j * 6 + 2, none⟩ = some (.string d.name) ∧ w3.cell? ⟨b', o' + j * 6 + 3, none⟩ = some (.int .i64 d.stamp) ∧ w3.cell? ⟨b', o' + j * 6 + 4, none⟩ = some (.int .i64 d.lib) ∧ w3.cell? ⟨b', o' + j * 6 + 5, none⟩ = some (.slice da' d.kids.length dc'))) := by
                intro w3 o3 hf
                have hown : ∀ k, oj k → mb < k ∧ k < wr.heap.size := fun k hk => HR.out.2.1.own hk
                have hNo : ¬ oj w.heap.size := fun q => by
                  rcases HR.out.1.fresh _ q with q | q
                  · have := OW.out _ q; omega
                  · have := (Array.getElem?_eq_some_iff.1 H1.out.1).1; omega
                have eN : ∀ q, w3.cell? ⟨w.heap.size, q, none⟩ = (wr.alloc (.cells #[.int .i64 p.kind, .int .i64 p.n, .string p.name, .int .i64 p.stamp, .int .i64 p.lib, .slice pa' p.kids.length pc'] 28)).cell? ⟨w.heap.size, q, none⟩ := fun q => World.cell?_of_block (a := ⟨w.heap.size, q, none⟩) (hf.same w.heap.size (by simp; omega) (by omega) hNo)
                have eX : ∀ q, w3.cell? ⟨wr.heap.size, q, none⟩ = (wr.alloc (.cells #[.int .i64 p.kind, .int .i64 p.n, .string p.name, .int .i64 p.stamp, .int .i64 p.lib, .slice pa' p.kids.length pc'] 28)).cell? ⟨wr.heap.size, q, none⟩ := fun q => World.cell?_of_block (a := ⟨wr.heap.size, q, none⟩) (hf.same wr.heap.size (by simp) (by omega) (fun q => by have := hown _ q; omega))
                have eD : ∀ q, w3.cell? ⟨b', q, none⟩ = (wr.alloc (.cells #[.int .i64 p.kind, .int .i64 p.n, .string p.name, .int .i64 p.stamp, .int .i64 p.lib, .slice pa' p.kids.length pc'] 28)).cell? ⟨b', q, none⟩ := fun q => World.cell?_of_block (a := ⟨b', q, none⟩) (hf.same b' (by simp; omega) (by omega) (fun q => by have := hown _ q; omega))
                obtain ⟨s0, s1, x0, x1, x2, x3, x4, x5, y0, y1, y2, y3, y4, y5⟩ := KB.out
                exact ⟨(eN 0).trans s0, (eN 1).trans s1, (eX 0).trans x0, (eX 1).trans x1, (eX 2).trans x2, (eX 3).trans x3, (eX 4).trans x4, (eX 5).trans x5, (eD _).trans y0, (eD _).trans y1, (eD _).trans y2, (eD _).trans y3, (eD _).trans y4, (eD _).trans y5⟩
              have hjd : (j : Int) < (ds.length : Int) := by omega
              have hjd2 : j < ds.length := by omega
              clear hpj hdj hall1 hall2 hpk hdk hpn hdn hpcc hdcc hL2 hp2 hd2 hg1 hg2 HBX
              cases r with
              | none =>
                have TN : Hid (∀ W', Below wr.heap.size wr W' → Calls Tryz.prog 56 _ W' fun e w' => ∃ o3, Fr mb oj o3 W' w' ∧ e = .returned (.bool false)) := TH.out
                have HRN : Hid (R = none) := by
                  show R = none
                  rw [HE.out, HR.out.2.2, HZ.out.2.2]
                  rfl
                clear TH
                go_wp2_with fail
                go_region_held3 (fun w' => (w'.cell? ⟨w.heap.size, 0, none⟩ = some (.map (some lb)) ∧ w'.cell? ⟨w.heap.size, 1, none⟩ = some (.map (some mb)) ∧ w'.cell? ⟨wr.heap.size, 0, none⟩ = some (.int .i64 p.kind) ∧ w'.cell? ⟨wr.heap.size, 1, none⟩ = some (.int .i64 p.n) ∧ w'.cell? ⟨wr.heap.size, 2, none⟩ = some (.string p.name) ∧ w'.cell? ⟨wr.heap.size, 3, none⟩ = some (.int .i64 p.stamp) ∧ w'.cell? ⟨wr.heap.size, 4, none⟩ = some (.int .i64 p.lib) ∧ w'.cell? ⟨wr.heap.size, 5, none⟩ = some (.slice pa' p.kids.length pc') ∧ w'.cell? ⟨b', o' + j * 6, none⟩ = some (.int .i64 d.kind) ∧ w'.cell? ⟨b', o' + j * 6 + 1, none⟩ = some (.int .i64 d.n) ∧ w'.cell? ⟨b', o' + j * 6 + 2, none⟩ = some (.string d.name) ∧ w'.cell? ⟨b', o' + j * 6 + 3, none⟩ = some (.int .i64 d.stamp) ∧ w'.cell? ⟨b', o' + j * 6 + 4, none⟩ = some (.int .i64 d.lib) ∧ w'.cell? ⟨b', o' + j * 6 + 5, none⟩ = some (.slice da' d.kids.length dc'))) (first | (with_reducible exact KB.out) | (with_reducible exact hc3) | exact KB.out | exact hc3) (first | (go_at_call 56; refine (TN.out _ (by exact Below.drew ((Below.refl _ _).alloc (Nat.le_refl _) _))).mono ?_; rintro e w3 ⟨o3, hf3, rfl⟩; have hc3 := SK.out w3 o3 hf3))
                all_goals
                  have HF3 : Hid (Fr mb o o3 w1 w3) := (HR.out.1.trans (Fr.of_below (Below.drew ((Below.refl _ _).alloc (Nat.le_refl _) _)))).trans hf3
                  clear hf3 hc3 n0 n1 p0c p1c p2c p3c p4c p5c d0c d1c d2c d3c d4c d5c
                  go_wp2_with fail
                  go_ret
                  exact ⟨o3, H1F.out.trans HF3.out, by rw [HRN.out]; rfl⟩
              | some m3 =>
                have TS : Hid (∀ W', Below wr.heap.size wr W' → Calls Tryz.prog 56 _ W' fun e w' => ∃ o3, Fr mb oj o3 W' w' ∧ e = .returned (.bool true) ∧ Met mb B g2 (L + sizeL (ds.take (j + 1))) m3 o3 w') := TH.out
                clear TH
                go_wp2_with fail
                go_region_held3 (fun w' => (w'.cell? ⟨w.heap.size, 0, none⟩ = some (.map (some lb)) ∧ w'.cell? ⟨w.heap.size, 1, none⟩ = some (.map (some mb)) ∧ w'.cell? ⟨wr.heap.size, 0, none⟩ = some (.int .i64 p.kind) ∧ w'.cell? ⟨wr.heap.size, 1, none⟩ = some (.int .i64 p.n) ∧ w'.cell? ⟨wr.heap.size, 2, none⟩ = some (.string p.name) ∧ w'.cell? ⟨wr.heap.size, 3, none⟩ = some (.int .i64 p.stamp) ∧ w'.cell? ⟨wr.heap.size, 4, none⟩ = some (.int .i64 p.lib) ∧ w'.cell? ⟨wr.heap.size, 5, none⟩ = some (.slice pa' p.kids.length pc') ∧ w'.cell? ⟨b', o' + j * 6, none⟩ = some (.int .i64 d.kind) ∧ w'.cell? ⟨b', o' + j * 6 + 1, none⟩ = some (.int .i64 d.n) ∧ w'.cell? ⟨b', o' + j * 6 + 2, none⟩ = some (.string d.name) ∧ w'.cell? ⟨b', o' + j * 6 + 3, none⟩ = some (.int .i64 d.stamp) ∧ w'.cell? ⟨b', o' + j * 6 + 4, none⟩ = some (.int .i64 d.lib) ∧ w'.cell? ⟨b', o' + j * 6 + 5, none⟩ = some (.slice da' d.kids.length dc'))) (first | (with_reducible exact KB.out) | (with_reducible exact hc3) | exact KB.out | exact hc3) (first | (go_at_call 56; refine (TS.out _ (by exact Below.drew ((Below.refl _ _).alloc (Nat.le_refl _) _))).mono ?_; rintro e w3 ⟨o3, hf3, rfl, hm3⟩; have hc3 := SK.out w3 o3 hf3))
                all_goals
                  have HF3 : Hid (Fr mb o o3 w1 w3) := (HR.out.1.trans (Fr.of_below (Below.drew ((Below.refl _ _).alloc (Nat.le_refl _) _)))).trans hf3
                  have HN3 : Hid (Met mb B g2 (L + sizeL (ds.take (j + 1))) m3 o3 w3 ∧ fitA lits ahead ds m = fitA lits (ahead.drop (j + 1)) (ds.drop (j + 1)) m3) := ⟨hm3, HR.out.2.2.trans HZ.out.2.2⟩
                  clear hm3 hf3 hc3 n0 n1 p0c p1c p2c p3c p4c p5c d0c d1c d2c d3c d4c d5c
                  go_wp2_with fail
                  go_roundw
                  case rel => exact ⟨j + 1, m3, o3, by omega, by go_num, HF3.out, HN3.out.1, HN3.out.2⟩
                  case measure => simp [intOf]; omega
            · obtain rfl : j = ahead.length := by omega
              have HA : Hid (fitA lits ahead ds m = some mj) := by
                show fitA lits ahead ds m = some mj
                rw [HR.out.2.2, List.drop_length, fitA]
              have HRS : Hid (R = some mj) := by
                show R = some mj
                rw [HE.out, HA.out]
                show (ds.drop ahead.length).foldlM _ mj = some mj
                rw [List.drop_eq_nil_of_le (by omega)]
                rfl
              have HMM : Hid (Met mb B gd (L + sizeL ds) mj oj wr) := by
                have h := HR.out.2.1
                rw [List.take_of_length_le (by omega)] at h
                exact h
              have hsub : ds.length - ahead.length = 0 := by omega
              clear n0 n1 hL2 hp2 hd2
              go_wp2_with fail
              all_goals
                go_loopw [56] (fun i wz => i = .int .i64 0 ∧ Fr mb o oj w1 wz ∧ Met mb B gd (L + sizeL ds) mj oj wz) (fun _ _ => 0)
                case atStart => exact ⟨rfl, HR.out.1, HMM.out⟩
                case round =>
                  obtain ⟨rfl, hfr, hmr⟩ := hrel
                  have HZ : Hid (Fr mb o oj w1 wr ∧ Met mb B gd (L + sizeL ds) mj oj wr) := ⟨hfr, hmr⟩
                  clear hfr hmr
                  go_wp2_with fail
                  go_ret
                  exact ⟨oj, H1F.out.trans HZ.out.1, by rw [HRS.out]; exact ⟨rfl, HZ.out.2⟩⟩
end Go.Proofs.YtgeedaabdonjcaeGreatDoor
