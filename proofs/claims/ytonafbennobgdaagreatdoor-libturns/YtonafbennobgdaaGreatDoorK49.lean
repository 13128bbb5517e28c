/- Chapter 3: WHAT Show TELLS. Chapter 3's laws: LibTurns, walked. -/
import Derived.Test.YtonafbennobgdaaGreatDoorK27
import Derived.Test.YtonafbennobgdaaGreatDoorK37
import Derived.Test.YtonafbennobgdaaGreatDoorK38
import Derived.Test.YtonafbennobgdaaGreatDoorK42
import Derived.Test.YtonafbennobgdaaGreatDoorK43
import Derived.Test.YtonafbennobgdaaGreatDoorK44
import Derived.Test.YtonafbennobgdaaGreatDoorK46
import Derived.Test.YtonafbennobgdaaGreatDoorK47
import Derived.Test.YtonafbennobgdaaGreatDoorK48
namespace Go.Proofs.YtonafbennobgdaaGreatDoor
set_option linter.unusedVariables false
set_option linter.unusedSimpArgs false
section
open Go.RowKit
set_option maxRecDepth 100000
set_option maxHeartbeats 6400000

theorem shownSet87_any (m : Int) : ∀ (n : Nat) (s : Se), ShowSe n s → seOk s → ∀ (dp : Nat), dp + n = 13 → ∀ (v : Value) (w : World), TabW w → 0 < w.heap.size → w.cell? ⟨1, 0, none⟩ = some (.int .i64 m) → SeV (fun k => k < w.heap.size) w s v → Calls Tryz.prog 87 #[v, .int .i64 (dp : Int)] w (TellF (setD s) w)
 | 0, s, h, _, _, _, _, _, _, _, _, _ => absurd h (by cases s; exact id)
 | n + 1, .mk k nm ns as_ p ks, h, ho, dp, hdp, v, w, ht, h0, hm, hv => by
  rw [ShowSe] at h
  rw [seOk] at ho
  obtain ⟨nv, av, kv, rfl, hns, has, hks⟩ := hv
  obtain ⟨na, nc, rfl, _⟩ := id hns
  obtain ⟨aa, ac, rfl, _⟩ := id has
  rcases h with ⟨rfl, hn, rfl, rfl, rfl, rfl⟩ | ⟨rfl, ⟨x, rfl, hx⟩, ⟨z1, z2, z3⟩, h⟩
  ·obtain ⟨ka, kl, kc, rfl⟩ := SeL.slice hks
   rw [setD, if_pos rfl]
   exact shownSet87_lib nm _ na aa ka _ nc _ ac kl kc dp m w hm hn (by omega)
  ·obtain ⟨ka, kc, ek, _⟩ := hks.at
   subst ek
   obtain ⟨kn, rfl⟩ : ∃ kn : Nat, k = (kn : Int) := ⟨k.toNat, by omega⟩
   have hk : 2 ≤ kn ∧ kn ≤ 5 := by omega
   have e : setD (.mk (kn : Int) ⟨#[]⟩ ns as_ p [x]) = liD (syD (setWordsB.getD kn ⟨#[]⟩) :: setD x :: restD (kn : Int) ns as_ p) := by
    rw [setD, if_neg (by omega), setDL, setDL]
    rfl
   rw [e]
   have hoL := ho.2.2.2
   rw [seOkL] at hoL
   refine shownSet87_else kn ⟨#[]⟩ p ns as_ x na aa ka nc ac kc dp w ht h0 hk.1 hk.2 (by omega) (by omega) hns has (fun y hy => by have := z1 y hy; omega) (fun y hy => by have := z2 y hy; omega) ho.1 (fun h5 => by rcases h with ⟨h, _⟩ | ⟨h, _⟩ | ⟨h, h', _⟩ <;> first | exact h' | (exfalso; omega)) hks (fun v W hb hv => ?_)
   have hw := World.block_lt_of_cell? w ⟨1, 0, none⟩ hm
   have := shownSet87_any m n x hx hoL.1 (dp + 1) (by omega) v W (ht.below hb h0) (Nat.lt_of_lt_of_le h0 hb.size) ((hb.cell (p := ⟨1, 0, none⟩) hw).trans hm) (SeV.stay (fun _ _ => rfl) (fun k hk => Nat.lt_of_lt_of_le hk hb.size) hv)
   rw [show ((dp + 1 : Nat) : Int) = (dp : Int) + 1 by omega] at this
   exact this
theorem shown42 (m : Int) (s : LibS) (ea ia ba : Option Addr) (ne ec ni ic nb bc : Nat) (w : World) (ht : TabW w) (h0 : 0 < w.heap.size) (hm : w.cell? ⟨1, 0, none⟩ = some (.int .i64 m)) (hg : GoodL s) (hio : seOkL s.imports) (hok : okL s.body)
  (hl : LibM (fun k => k < w.heap.size) s (.slice ea ne ec) (.slice ia ni ic) (.slice ba nb bc) w) :
  Calls Tryz.prog 42 #[.agg #[.string s.name, .slice ea ne ec, .slice ia ni ic, .slice ba nb bc]] w (TellF (showD s) w) := by
 obtain ⟨a1, c1, e1, hc1, h1⟩ := id hl.ex
 simp only [Value.slice.injEq] at e1
 obtain ⟨rfl, rfl, rfl⟩ := e1
 obtain ⟨a2, c2, e2, h2⟩ := hl.im.at
 simp only [Value.slice.injEq] at e2
 obtain ⟨rfl, rfl, rfl⟩ := e2
 obtain ⟨a3, c3, f3, e3, hc3, h3⟩ := hl.bo
 simp only [Value.slice.injEq] at e3
 obtain ⟨rfl, rfl, rfl⟩ := e3
 have hw := World.block_lt_of_cell? w ⟨1, 0, none⟩ hm
 have e : showD s = if s.name = ⟨#[]⟩ then liD [syD bProgram, liD (syD bImport :: s.imports.map setD), liD (syD bBegin :: bareQL s.body)] else liD [syD bLibrary, callD s.name, liD (syD bExport :: s.exports.map expD), liD (syD bImport :: s.imports.map setD), liD (syD bBegin :: bareQL s.body)] := by
  unfold showD
  rw [setDL_map]
 rw [e]
 refine shown42_over s.name ea ia ba s.exports.length ec s.imports.length ic s.body.length bc _ _ _ _ w (fun W hb => ?_) (fun W hb => ?_) (fun W hb => ?_) (fun W hb => ?_)
 ·exact shownImports64 s.imports ia ic W (hl.im.stay (fun k hk => hb.block k hk) (fun k hk => Nat.lt_of_lt_of_le hk hb.size)) (by have := hg.imp; omega) (fun x hx v U hu hv => by
   have hwU := hb.trans (hu.mono hb.size)
   have := shownSet87_any m 12 x (hg.sets x hx) (seOkL_mem hio x hx) 1 rfl v U (ht.below hwU h0) (Nat.lt_of_lt_of_le h0 hwU.size) ((hwU.cell (p := ⟨1, 0, none⟩) hw).trans hm) (SeV.stay (fun _ _ => rfl) (fun k hk => Nat.lt_of_lt_of_le hk hu.size) hv)
   exact this)
 ·exact shownBody65 s.body ba bc f3 W (Dc.stay (fun k hk => hb.block k hk) (fun k hk => Nat.lt_of_lt_of_le hk hb.size) _ _ _ h3) hc3 hg.bod (fun d hd => (hg.right d hd).wrong) hok
 ·exact shownCall68 s.name m W ((hb.cell (p := ⟨1, 0, none⟩) hw).trans hm) hg.nm
 ·exact shownExports69 s.exports ea ec W (hl.ex.stay (fun k hk => hb.block k hk) (fun k hk => Nat.lt_of_lt_of_le hk hb.size)) (fun q hq => by have := hg.exs q hq; omega) (by have := hg.exp; omega)
def In41 (p : Nat) (d : Dat) (w : World) (e : Ending) (w' : World) : Prop := Keep p w w' ∧ e = .returned (.tuple #[]) ∧ ∃ a c, Nod p d (.slice a d.kids.length c) w' ∧ DE (fun b => w.heap.size ≤ b) w' d a c
theorem closure41 (p0 p1 : Nat) (nm : ByteArray) (ea ia ba : Option Addr) (ne ec ni ic nb bc : Nat) (d : Dat) (w : World) (hp : w.heap[p0]? = some (.cells #[.string nm, .slice ea ne ec, .slice ia ni ic, .slice ba nb bc] 30 (0, 0))) (hn : Nod p1 ⟨0, 0, ⟨#[]⟩, 0, 0, []⟩ (.slice none 0 0) w)
  (HC : Calls Tryz.prog 42 #[.agg #[.string nm, .slice ea ne ec, .slice ia ni ic, .slice ba nb bc]] w (TellF d w)) : Calls Tryz.prog 41 #[.pointer (some ⟨p0, 0, none⟩), .pointer (some ⟨p1, 0, none⟩)] w (In41 p1 d w) := by
 have m0 : w.cell? ⟨p0, 0, none⟩ = some _ := (cellO hp).trans rfl
 have m1 : w.cell? ⟨p0, 1, none⟩ = some _ := (cellO hp).trans rfl
 have m2 : w.cell? ⟨p0, 2, none⟩ = some _ := (cellO hp).trans rfl
 have m3 : w.cell? ⟨p0, 3, none⟩ = some _ := (cellO hp).trans rfl
 have HCC := hidd HC
 have HN := hidd hn
 clear hp HC hn
 go_enter Tryz.func41, Tryz.ntmps41
 go_wp2_with fail
 refine HCC.out.mono ?_
 rintro e w2 ⟨hb2, a, c, rfl, hde⟩
 have hlt := HN.out.lt
 have N2 := HN.out.after hb2
 have NH := hidd N2
 have HDE := hidd hde
 have HB2 := hidd (And.intro hb2 hlt)
 obtain ⟨q, q0, q1, q2, q3, q4, q5, qz⟩ := N2
 simp only at q0 q1 q2 q3 q4 q5
 clear hb2 hde HCC m0 m1 m2 m3 hlt
 unfold dv
 go_wp2_with fail
 have hh := six_heap w2 p1 (.int .i64 d.kind) (.int .i64 d.n) (.string d.name) (.int .i64 d.stamp) (.int .i64 d.lib) (.slice a d.kids.length c)
 have hb := HB2.out.1
 have hl := HB2.out.2
 have k0 : Keep p1 w w2 := ⟨hb.os, hb.tape, hb.output, hb.size, fun k hk _ => hb.block k hk⟩
 have hk : Keep p1 w ((((((w2.setCell ⟨p1, 0, none⟩ (.int .i64 d.kind)).setCell ⟨p1, 1, none⟩ (.int .i64 d.n)).setCell ⟨p1, 2, none⟩ (.string d.name)).setCell ⟨p1, 3, none⟩ (.int .i64 d.stamp)).setCell ⟨p1, 4, none⟩ (.int .i64 d.lib)).setCell ⟨p1, 5, none⟩ (.slice a d.kids.length c)) := (((((k0.setCell _ rfl _).setCell _ rfl _).setCell _ rfl _).setCell _ rfl _).setCell _ rfl _).setCell _ rfl _
 have hs := NH.out.store d (.slice a d.kids.length c)
 go_end0
 exact ⟨hk, rfl, a, c, hs, HDE.out.kept hh.1 hh.2 (fun k hk => by omega)⟩
theorem attempt_41 (p0 p1 : Nat) (d : Dat) (w : World) (hl1 : p1 < w.heap.size) (HC0 : ∀ W, Below w.heap.size w W → w.heap.size < W.heap.size → Calls Tryz.prog 41 #[.pointer (some ⟨p0, 0, none⟩), .pointer (some ⟨p1, 0, none⟩)] W (In41 p1 d W)) :
  Calls Tryz.prog 27 #[.func (.func 41) #[] #[.pointer (some ⟨p0, 0, none⟩), .pointer (some ⟨p1, 0, none⟩)]] w fun e w' => Keep p1 w w' ∧ e = .returned (.int .i64 0) ∧ ∃ a c, Nod p1 d (.slice a d.kids.length c) w' ∧ DE (fun b => w.heap.size ≤ b) w' d a c := by
 have hmf : ∀ (fn : Fn) (first cap : Array Value) (w : World), (Instr.makeFunc fn first cap).run Tryz.prog w = .ok (.func fn first cap) w := fun _ _ _ _ => rfl
 have BB : Below w.heap.size w (w.alloc (.cells #[.int .i64 0] 31)) := (Below.refl _ _).alloc (Nat.le_refl _) _
 have SZ : (w.alloc (.cells #[.int .i64 0] 31)).heap.size = w.heap.size + 1 := by simp
 have hA := hidd (HC0 _ BB (by rw [SZ]; omega))
 have h0 : (w.alloc (.cells #[.int .i64 0] 31)).cell? ⟨w.heap.size, 0, none⟩ = some (.int .i64 0) := by simp [go_sem]
 have z0 : (w.alloc (.cells #[.int .i64 0] 31)).frozen? ⟨w.heap.size, 0, none⟩ = false := by simp [go_sem]
 have HH0 := hidd h0
 have HZ0 := hidd z0
 have HBB := hidd BB
 have HSZ := hidd SZ
 have HL4 := hidd hl1
 clear BB SZ HC0 h0 z0 hl1
 go_enter_defers Tryz.func27, Tryz.ntmps27
 go_wp2_with fail
 refine hA.out.mono ?_
 generalize (w.alloc (.cells #[.int .i64 0] 31)) = W at *
 rintro e w1 ⟨hk, rfl, a, c, hnod, hde⟩
 have h0 := HH0.out
 have z0 := HZ0.out
 have hlt : w.heap.size < W.heap.size := by have := HSZ.out; omega
 have hne : w.heap.size ≠ p1 := by have := HL4.out; omega
 have g0 := (hk.cell (p := ⟨w.heap.size, 0, none⟩) hlt hne).trans h0
 have y0 := (hk.frozen (p := ⟨w.heap.size, 0, none⟩) hlt hne).trans z0
 have hkw : Keep p1 w w1 := ⟨hk.os.trans HBB.out.os, hk.tape.trans HBB.out.tape, hk.output.trans HBB.out.output, Nat.le_trans HBB.out.size hk.size, fun k h1 h2 => (hk.block k (Nat.lt_of_lt_of_le h1 HBB.out.size) h2).trans (HBB.out.block k h1)⟩
 have HPR := hidd (And.intro hnod hde)
 have HKW := hidd hkw
 clear hk hkw h0 z0 hnod hde
 go_wp2_with fail
 refine leaves_cons (f := 51) (args := #[.pointer (some ⟨w.heap.size, 0, none⟩)]) (by simp) (by simp [go_sem]) ?_
 refine (catchL_idle w.heap.size _).mono ?_
 rintro e u' w'' ⟨rfl, rfl, rfl⟩
 have hsz : (w1.setCell ⟨w.heap.size, 0, none⟩ (.int .i64 0)).heap.size = w1.heap.size := by simp
 have hf : ∀ k, k ≠ w.heap.size → (w1.setCell ⟨w.heap.size, 0, none⟩ (.int .i64 0)).heap[k]? = w1.heap[k]? := fun k hk => Below.heap_setCell _ _ _ _ hk
 have HP2 : Nod p1 d (.slice a d.kids.length c) (w1.setCell ⟨w.heap.size, 0, none⟩ (.int .i64 0)) ∧ DE (fun b => w.heap.size ≤ b) (w1.setCell ⟨w.heap.size, 0, none⟩ (.int .i64 0)) d a c := by
  have := HSZ.out
  exact ⟨HPR.out.1.of_block (hf p1 hne.symm) (by rw [hsz]; exact HPR.out.1.lt), (HPR.out.2.kept hf hsz (fun k hk => by omega)).to (fun k hk _ => by omega)⟩
 have HK2 : Keep p1 w (w1.setCell ⟨w.heap.size, 0, none⟩ (.int .i64 0)) := HKW.out.setNew _ (Nat.le_refl _) _
 clear HPR HKW hf hsz
 simp [Leaves, settle, results, Tryz.results27, go_sem, g0]
 exact ⟨HK2, a, c, HP2.1, HP2.2⟩
theorem ret14 {ts : Array Value} {W : World} {R : Nat} {d : Dat} {v : Value} (h : Nod R d v W) (h6 : ts[2]? = some (.pointer (some ⟨R, 0, none⟩))) :
  (results Tryz.f14 ts).run Tryz.prog W = .ok (.agg #[.int .i64 d.kind, .int .i64 d.n, .string d.name, .int .i64 d.stamp, .int .i64 d.lib, v]) W := by
 obtain ⟨q, q0, q1, q2, q3, q4, q5, qz⟩ := h
 simp [results, Tryz.results14, go_sem, h6, q0, q1, q2, q3, q4, q5]
theorem Show_any (m : Int) (s : LibS) (ea ia ba : Option Addr) (ne ec ni ic nb bc : Nat) (w : World) (ht : TabW w) (h0 : 0 < w.heap.size) (hm : w.cell? ⟨1, 0, none⟩ = some (.int .i64 m)) (hg : GoodL s) (hio : seOkL s.imports) (hok : okL s.body)
  (hl : LibM (fun k => k < w.heap.size) s (.slice ea ne ec) (.slice ia ni ic) (.slice ba nb bc) w) :
  Calls Tryz.prog 14 #[.agg #[.string s.name, .slice ea ne ec, .slice ia ni ic, .slice ba nb bc]] w (TellF (showD s) w) := by
 have hw := World.block_lt_of_cell? w ⟨1, 0, none⟩ hm
 simp only at hw
 have SH : Hid (∀ W, Below w.heap.size w W → Calls Tryz.prog 42 #[.agg #[.string s.name, .slice ea ne ec, .slice ia ni ic, .slice ba nb bc]] W (TellF (showD s) W)) := fun W hb => shown42 m s ea ia ba ne ec ni ic nb bc W (ht.below hb h0) (Nat.lt_of_lt_of_le h0 hb.size) ((hb.cell (p := ⟨1, 0, none⟩) hw).trans hm) hg hio hok (hl.stay (fun k hk => hb.block k hk) (fun k hk => Nat.lt_of_lt_of_le hk hb.size))
 generalize s.name = nm at *
 generalize showD s = d at *
 obtain ⟨W1, hW1⟩ : ∃ W1, W1 = (w.alloc (.cells #[.string nm, .slice ea ne ec, .slice ia ni ic, .slice ba nb bc] 30)).alloc (.cells #[.int .i64 0, .int .i64 0, .string ⟨#[]⟩, .int .i64 0, .int .i64 0, .slice none 0 0] 26) := ⟨_, rfl⟩
 have hb1 : Below w.heap.size w W1 := by rw [hW1]; exact ((Below.refl _ _).alloc (Nat.le_refl _) _).alloc (by simp) _
 have hsz : W1.heap.size = w.heap.size + 2 := by rw [hW1]; simp
 have bx : W1.heap[w.heap.size]? = some (.cells #[.string nm, .slice ea ne ec, .slice ia ni ic, .slice ba nb bc] 30 (0, 0)) := by rw [hW1, Below.heap_alloc _ _ _ (by simp)]; exact World.alloc_heap_new w _
 have N0 : Nod (w.alloc (.cells #[.string nm, .slice ea ne ec, .slice ia ni ic, .slice ba nb bc] 30)).heap.size ⟨0, 0, ⟨#[]⟩, 0, 0, []⟩ (.slice none 0 0) _ := Nod.made (w.alloc (.cells #[.string nm, .slice ea ne ec, .slice ia ni ic, .slice ba nb bc] 30)) ⟨0, 0, ⟨#[]⟩, 0, 0, []⟩ (.slice none 0 0)
 have N1 : Nod (w.heap.size + 1) ⟨0, 0, ⟨#[]⟩, 0, 0, []⟩ (.slice none 0 0) W1 := by
  rw [hW1]
  simpa using N0
 obtain ⟨W2, hW2⟩ : ∃ W2, W2 = W1.alloc (.cells #[.int .i64 0, .int .i64 0, .string ⟨#[]⟩, .int .i64 0, .int .i64 0, .slice none 0 0] 26) := ⟨_, rfl⟩
 have hb2 : Below W1.heap.size W1 W2 := by rw [hW2]; exact (Below.refl _ _).alloc (Nat.le_refl _) _
 have hsz2 : W2.heap.size = w.heap.size + 3 := by rw [hW2]; simp [hsz]
 have N2 : Nod (w.heap.size + 2) ⟨0, 0, ⟨#[]⟩, 0, 0, []⟩ (.slice none 0 0) W2 := by
  rw [hW2]
  have := Nod.made W1 ⟨0, 0, ⟨#[]⟩, 0, 0, []⟩ (.slice none 0 0)
  rw [hsz] at this
  exact this
 have bx2 : W2.heap[w.heap.size]? = some (.cells #[.string nm, .slice ea ne ec, .slice ia ni ic, .slice ba nb bc] 30 (0, 0)) := (hb2.block _ (by omega)).trans bx
 have hw2 : Below w.heap.size w W2 := hb1.trans (hb2.mono hb1.size)
 have AT := hidd (attempt_41 w.heap.size (w.heap.size + 2) d W2 (by omega) (fun W hb _ => closure41 w.heap.size (w.heap.size + 2) nm ea ia ba ne ec ni ic nb bc d W ((hb.block _ (by omega)).trans bx2) (N2.after hb) (SH.out W (hw2.trans (hb.mono hw2.size)))))
 have NR : Hid (Nod (w.heap.size + 1) ⟨0, 0, ⟨#[]⟩, 0, 0, []⟩ (.slice none 0 0) W2) := N1.after hb2
 have HB : Hid (Below w.heap.size w W2 ∧ W2.heap.size = w.heap.size + 3) := ⟨hw2, hsz2⟩
 have HW2 : Hid (W2 = ((w.alloc (.cells #[.string nm, .slice ea ne ec, .slice ia ni ic, .slice ba nb bc] 30)).alloc (.cells #[.int .i64 0, .int .i64 0, .string ⟨#[]⟩, .int .i64 0, .int .i64 0, .slice none 0 0] 26)).alloc (.cells #[.int .i64 0, .int .i64 0, .string ⟨#[]⟩, .int .i64 0, .int .i64 0, .slice none 0 0] 26)) := by show _ = _; rw [hW2, hW1]
 clear hw ht h0 hm hg hio hok hl SH hW1 hb1 hsz bx N0 N1 hW2 hb2 hsz2 N2 bx2 hw2
 go_enter Tryz.func14, Tryz.ntmps14
 go_upto_region 2 with fail
 rw [← HW2.out]
 clear HW2
 go_wp2_with fail
 refine AT.out.mono ?_
 rintro e w3 ⟨hk, rfl, a, c, hnod, hde⟩
 have NR3 := NR.out.keep hk (by omega)
 have HN3 := hidd NR3
 have HD3 := hidd (And.intro hde hk)
 obtain ⟨p, p0, p1, p2, p3, p4, p5, pz⟩ := hnod
 obtain ⟨q, q0, q1, q2, q3, q4, q5, qz⟩ := NR3
 simp only at q0 q1 q2 q3 q4 q5
 clear hk hde AT NR
 go_wp2_with fail
 refine bodyPost_ret (ret14 (HN3.out.store d (.slice a d.kids.length c)) rfl) rfl ?_
 have hk := HD3.out.2
 have hb3 : Below w.heap.size w w3 := ⟨hk.os.trans HB.out.1.os, hk.tape.trans HB.out.1.tape, hk.output.trans HB.out.1.output, Nat.le_trans HB.out.1.size hk.size, fun k h1 => (hk.block k (Nat.lt_of_lt_of_le h1 HB.out.1.size) (by simp; omega)).trans (HB.out.1.block k h1)⟩
 have hh := six_heap w3 (w.heap.size + 1) (.int .i64 d.kind) (.int .i64 d.n) (.string d.name) (.int .i64 d.stamp) (.int .i64 d.lib) (.slice a d.kids.length c)
 have hz := HB.out.2
 exact ⟨below_sixN hb3 (Nat.le_succ _) _ _ _ _ _ _, a, c, rfl, (HD3.out.1.kept hh.1 hh.2 (fun k hk => by omega)).to (fun k hk _ => by omega)⟩
end
section
open Go.RowKit

theorem okL_rg : ∀ {l : List Dat}, RgL l → okL l
 | [], _ => by rw [okL]; trivial
 | d :: r, h => by
  rw [okL]
  refine ⟨okD_chk 40 d 0 (by decide) ?_, okL_rg (fun y hy => h y (by simp [hy]))⟩
  have := (h d (by simp)).wrong
  rw [wrong_one] at this
  exact this
theorem field_faultT (x y : Int) (w : World) : (Instr.field 40 (.agg #[.int .i64 x, .int .i64 y]) 0).run Tryz.prog w = .ok (.int .i64 x) w := by
 simp [Instr.field, run_underlying Tryz.underlying40, go_sem, asAgg]
set_option maxRecDepth 100000 in
set_option maxHeartbeats 12800000 in
theorem LibTurns_walk (E : Env) (a1 a2 a3 : Option Addr) (n1 n2 n3 c1 c2 c3 : Nat) (m : Int) (d : Dat) (da : Option Addr) (dc Fd : Nat) (w : World) (h0 : 0 < w.heap.size) (ht : TabW w) (hm : w.cell? ⟨1, 0, none⟩ = some (.int .i64 m)) (he : EnvW w.heap.size E (.slice a1 n1 c1) (.slice a2 n2 c2) (.slice a3 n3 c3) w) (hdn : d.name.size ≤ maxLen) (hdc : d.kids.length ≤ dc) (hd : Dn w Fd da d.kids) :
  Calls Tryz.prog 5 #[.slice a1 n1 c1, .slice a2 n2 c2, .slice a3 n3 c3, dv d da dc] w fun e w' => e = .returned (.bool true) ∧ Below w.heap.size w w' := by
 have hw := World.block_lt_of_cell? w ⟨1, 0, none⟩ hm
 simp only at hw
 have AL : Hid (∀ W, Below w.heap.size w W → Calls Tryz.prog 12 #[] W fun e w' => e = .returned (.bool true) ∧ Below W.heap.size W w') := fun W hb => alive_any W (ht.below hb h0) (Nat.lt_of_lt_of_le h0 hb.size)
 have HT : Hid (∀ W, Below w.heap.size w W → TabW W ∧ 0 < W.heap.size ∧ W.cell? ⟨1, 0, none⟩ = some (.int .i64 m)) := fun W hb => ⟨ht.below hb h0, Nat.lt_of_lt_of_le h0 hb.size, (hb.cell (p := ⟨1, 0, none⟩) hw).trans hm⟩
 have PA : Hid (∀ W, Below w.heap.size w W → Calls Tryz.prog 9 #[.slice a1 n1 c1, .slice a2 n2 c2, .slice a3 n3 c3, dv d da dc] W (ToldQ (parseF E d) W)) := fun W hb => (Parse_any W.heap.size Fd E _ _ _ d da dc W (Nat.le_refl _) (Nat.lt_of_lt_of_le h0 hb.size) ((he.below hb).grow hb.size) (ht.below hb h0) (hd.lift hb) hdc hdn).mono fun _ _ h => h.q
 have PB : Hid (∀ x xa xc F W, Below w.heap.size w W → Dc (fun k => k < W.heap.size) W F xa x.kids → x.kids.length ≤ xc → x.name.size ≤ maxLen → Calls Tryz.prog 9 #[.slice none 0 0, .slice none 0 0, .slice none 0 0, dv x xa xc] W (ToldQ (parseF ⟨[], [], []⟩ x) W)) := fun x xa xc F W hb hx hl hn => (Parse_any W.heap.size F ⟨[], [], []⟩ _ _ _ x xa xc W (Nat.le_refl _) (Nat.lt_of_lt_of_le h0 hb.size) ⟨⟨none, 0, rfl, Or.inl rfl⟩, SV.nil _ _, SV.nil _ _, by simp, by simp, by simp⟩ (ht.below hb h0) hx hl hn).mono fun _ _ h => h.q
 obtain ⟨V, hV⟩ : ∃ V, V = w.alloc (.cells #[.int .i64 d.kind, .int .i64 d.n, .string d.name, .int .i64 d.stamp, .int .i64 d.lib, .slice da d.kids.length dc] 26) := ⟨_, rfl⟩
 have bV : Below w.heap.size w V := by rw [hV]; exact (Below.refl _ _).alloc (Nat.le_refl _) _
 have xV : V.heap[w.heap.size]? = some (.cells #[.int .i64 d.kind, .int .i64 d.n, .string d.name, .int .i64 d.stamp, .int .i64 d.lib, .slice da d.kids.length dc] 26 (0, 0)) := by rw [hV]; exact World.alloc_heap_new w _
 have GV : Hid (Below w.heap.size w V ∧ V.heap[w.heap.size]? = some (.cells #[.int .i64 d.kind, .int .i64 d.n, .string d.name, .int .i64 d.stamp, .int .i64 d.lib, .slice da d.kids.length dc] 26 (0, 0))) := ⟨bV, xV⟩
 have QV := hidd hV.symm
 obtain ⟨r, hr⟩ : ∃ r, r = parseF E d := ⟨_, rfl⟩
 rw [← hr] at PA
 have NZR : Hid (NZ r) := by rw [hr]; exact nz_parse E d
 have MU : Hid (Inv (libOf r) ∧ seOkL (libOf r).imports) := by rw [hr]; exact libOf_much _ _
 have HR := hidd hr
 clear h0 ht hm he hdn hdc hd hV bV xV hr hw
 unfold dv at PA ⊢
 go_enter Tryz.func5, Tryz.ntmps5
 go_upto_region 1 with fail
 rw [QV.out]
 clear QV
 go_wp2_with fail
 refine (AL.out V GV.out.1).mono ?_
 rintro e v1 ⟨rfl, hb1⟩
 have B1 : Hid (Below w.heap.size w v1) := GV.out.1.trans (hb1.mono GV.out.1.size)
 have xv := (hb1.block _ (Array.getElem?_eq_some_iff.1 GV.out.2).1).trans GV.out.2
 have e0 : v1.cell? ⟨w.heap.size, 0, none⟩ = some _ := (cellO xv).trans rfl
 have e1 : v1.cell? ⟨w.heap.size, 1, none⟩ = some _ := (cellO xv).trans rfl
 have e2 : v1.cell? ⟨w.heap.size, 2, none⟩ = some _ := (cellO xv).trans rfl
 have e3 : v1.cell? ⟨w.heap.size, 3, none⟩ = some _ := (cellO xv).trans rfl
 have e4 : v1.cell? ⟨w.heap.size, 4, none⟩ = some _ := (cellO xv).trans rfl
 have e5 : v1.cell? ⟨w.heap.size, 5, none⟩ = some _ := (cellO xv).trans rfl
 clear hb1 xv AL GV
 go_wp2_with fail
 refine (PA.out v1 B1.out).mono ?_
 rintro e w3 ⟨hb3, ea1, ne1, ec1, ia1, ni1, ic1, ba1, nb1, bc1, rfl, hlm1⟩
 obtain ⟨V3, hV3⟩ : ∃ V, V = w3.alloc (.cells #[.string (libOf r).name, .slice ea1 ne1 ec1, .slice ia1 ni1 ic1, .slice ba1 nb1 bc1] 30) := ⟨_, rfl⟩
 have b3 : Below w3.heap.size w3 V3 := by rw [hV3]; exact (Below.refl _ _).alloc (Nat.le_refl _) _
 have G3 : Hid (Below w.heap.size w V3 ∧ V3.heap[w3.heap.size]? = some (.cells #[.string (libOf r).name, .slice ea1 ne1 ec1, .slice ia1 ni1 ic1, .slice ba1 nb1 bc1] 30 (0, 0)) ∧ LibM (fun k => k < V3.heap.size) (libOf r) (.slice ea1 ne1 ec1) (.slice ia1 ni1 ic1) (.slice ba1 nb1 bc1) V3) := by
  have h1 : Below w.heap.size w w3 := B1.out.trans (hb3.mono B1.out.size)
  exact ⟨h1.trans (b3.mono h1.size), by rw [hV3]; exact World.alloc_heap_new w3 _, hlm1.stay (fun k hk => b3.block k hk.2) (fun k hk => Nat.lt_of_lt_of_le hk.2 b3.size)⟩
 have QV3 := hidd hV3.symm
 have r0 : V3.cell? ⟨w3.heap.size, 0, none⟩ = some _ := (cellO G3.out.2.1).trans rfl
 have r1 : V3.cell? ⟨w3.heap.size, 1, none⟩ = some _ := (cellO G3.out.2.1).trans rfl
 have r2 : V3.cell? ⟨w3.heap.size, 2, none⟩ = some _ := (cellO G3.out.2.1).trans rfl
 have r3 : V3.cell? ⟨w3.heap.size, 3, none⟩ = some _ := (cellO G3.out.2.1).trans rfl
 clear hb3 hlm1 b3 hV3 PA e0 e1 e2 e3 e4 e5
 go_upto_region 4 with fail
 rw [QV3.out]
 clear QV3
 cases r with
 | no y =>
  have hy := NZR.out y rfl
  have SM := hidd (same_any V3.heap.size lib0 _ _ _ (.slice none 0 0) (.slice none 0 0) (.slice none 0 0) V3 (Nat.le_refl _) G3.out.2.2 (lib0M _ _) (by simp [lib0]) (by simp [lib0]) (by simp [lib0, seOkL]))
  have g1 : decide (y = 0) = false := by simp [hy]
  have g2 : (y == 0) = false := by simp [hy]
  have g3 : (y != 0) = true := by simp [hy]
  have BB := G3.out.1
  have HBB := hidd BB
  clear hy BB NZR MU HR G3 PB HT
  simp only [libOf, errOf, lib0] at SM r0 r1 r2 r3 ⊢
  go_wp2_with fail
  refine SM.out.mono ?_
  rintro e w4 ⟨rfl, hb4⟩
  have HB4 : Hid (Below w.heap.size w w4) := HBB.out.trans (hb4.mono HBB.out.size)
  clear hb4 SM
  go_wp2_with fail
  go_ret
  exact ⟨rfl, HB4.out⟩
 | ok s =>
  have hg := parse_good HR.out.symm
  have TP : Hid ((wrong [showD s]).1 = 0 → parseF ⟨[], [], []⟩ (showD s) = .ok s) := fun hw => turns_plain HR.out.symm (by simp) hw
  have SH := hidd (Show_any m s ea1 ia1 ba1 ne1 ec1 ni1 ic1 nb1 bc1 V3 (HT.out V3 G3.out.1).1 (HT.out V3 G3.out.1).2.1 (HT.out V3 G3.out.1).2.2 hg MU.out.2 (okL_rg hg.right) G3.out.2.2)
  have MU2 : Hid (Inv s ∧ seOkL s.imports) := MU.out
  obtain ⟨x, hx⟩ : ∃ x, x = showD s := ⟨_, rfl⟩
  rw [← hx] at SH TP
  clear hg hx MU NZR HR
  have G4 : Hid (Below w.heap.size w V3 ∧ V3.heap[w3.heap.size]? = some (.cells #[.string s.name, .slice ea1 ne1 ec1, .slice ia1 ni1 ic1, .slice ba1 nb1 bc1] 30 (0, 0)) ∧ LibM (fun k => k < V3.heap.size) s (.slice ea1 ne1 ec1) (.slice ia1 ni1 ic1) (.slice ba1 nb1 bc1) V3) := G3.out
  clear G3
  simp only [libOf, errOf] at r0 r1 r2 r3 ⊢
  go_wp2_with fail
  refine SH.out.mono ?_
  rintro e w4 ⟨hb4, xa, xc, rfl, hde⟩
  obtain ⟨V4, hV4⟩ : ∃ V, V = w4.alloc (.cells #[.int .i64 x.kind, .int .i64 x.n, .string x.name, .int .i64 x.stamp, .int .i64 x.lib, .slice xa x.kids.length xc] 26) := ⟨_, rfl⟩
  have b4 : Below w4.heap.size w4 V4 := by rw [hV4]; exact (Below.refl _ _).alloc (Nat.le_refl _) _
  have x4 : V4.heap[w4.heap.size]? = some (.cells #[.int .i64 x.kind, .int .i64 x.n, .string x.name, .int .i64 x.stamp, .int .i64 x.lib, .slice xa x.kids.length xc] 26 (0, 0)) := by rw [hV4]; exact World.alloc_heap_new w4 _
  have b34 : Below V3.heap.size V3 V4 := hb4.trans (b4.mono hb4.size)
  have G5 : Hid (Below V3.heap.size V3 V4 ∧ V4.heap[w4.heap.size]? = some (.cells #[.int .i64 x.kind, .int .i64 x.n, .string x.name, .int .i64 x.stamp, .int .i64 x.lib, .slice xa x.kids.length xc] 26 (0, 0)) ∧ DE (fun _ => True) V4 x xa xc) := ⟨b34, x4, (hde.lift b4).to (fun _ _ _ => trivial)⟩
  have QV4 := hidd hV4.symm
  obtain ⟨sf, hsf⟩ := row_lie (fun _ => True) V4 [(x, xa, xc)] (by simp) (fun e he => by simp at he; subst he; exact G5.out.2.2)
  have WR := hidd (Wrong_any (V4.alloc (.cells #[.int .i64 x.kind, .int .i64 x.n, .string x.name, .int .i64 x.stamp, .int .i64 x.lib, .slice xa x.kids.length xc] 26)).heap.size sf [x] (some ⟨V4.heap.size, 0, none⟩) 1 (V4.alloc (.cells #[.int .i64 x.kind, .int .i64 x.n, .string x.name, .int .i64 x.stamp, .int .i64 x.lib, .slice xa x.kids.length xc] 26)) (Dc.lies (fun k hk => by have := hk.2; simpa using this) sf _ _ hsf) (Nat.le_refl _))
  have HB5 : Hid (Below V4.heap.size V4 (V4.alloc (.cells #[.int .i64 x.kind, .int .i64 x.n, .string x.name, .int .i64 x.stamp, .int .i64 x.lib, .slice xa x.kids.length xc] 26))) := (Below.refl _ _).alloc (Nat.le_refl _) _
  have p0 : V4.cell? ⟨w4.heap.size, 0, none⟩ = some _ := (cellO x4).trans rfl
  have p1 : V4.cell? ⟨w4.heap.size, 1, none⟩ = some _ := (cellO x4).trans rfl
  have p2 : V4.cell? ⟨w4.heap.size, 2, none⟩ = some _ := (cellO x4).trans rfl
  have p3 : V4.cell? ⟨w4.heap.size, 3, none⟩ = some _ := (cellO x4).trans rfl
  have p4 : V4.cell? ⟨w4.heap.size, 4, none⟩ = some _ := (cellO x4).trans rfl
  have p5 : V4.cell? ⟨w4.heap.size, 5, none⟩ = some _ := (cellO x4).trans rfl
  clear hb4 hde hV4 b4 x4 b34 hsf SH r0 r1 r2 r3
  unfold dv
  go_upto_region 7 with fail
  rw [QV4.out]
  clear QV4
  go_wp2_with fail
  refine WR.out.mono ?_
  rintro e w5 ⟨rfl, hb5⟩
  have G6 : Hid (Below V3.heap.size V3 w5 ∧ Below V4.heap.size V4 w5) := by
   have h1 : Below V4.heap.size V4 w5 := HB5.out.trans (hb5.mono HB5.out.size)
   exact ⟨G5.out.1.trans (h1.mono G5.out.1.size), h1⟩
  have BW : Hid (Below w.heap.size w w5) := G4.out.1.trans (G6.out.1.mono G4.out.1.size)
  unfold fv
  generalize wrong [x] = wy at TP ⊢
  obtain ⟨y, yp⟩ := wy
  simp only at TP ⊢
  have fl := field_faultT y yp w5
  clear hb5 WR HB5 p0 p1 p2 p3 p4 p5
  by_cases qy : ¬ y = 0
  ·have f1 : decide (y = 0) = false := by simp [qy]
   have f2 : (y == 0) = false := by simp [qy]
   have f3 : (y != 0) = true := by simp [qy]
   clear qy
   go_wp2_with fail
   go_ret
   exact ⟨rfl, BW.out⟩
  obtain rfl : y = 0 := Classical.not_not.1 qy
  clear qy
  have x5 := (G6.out.2.block _ (Array.getElem?_eq_some_iff.1 G5.out.2.1).1).trans G5.out.2.1
  have hde5 := (G5.out.2.2.lift G6.out.2)
  obtain ⟨hxn, hxc, xf, hxd⟩ := hde5
  have PQ := PB.out x xa xc xf w5 BW.out (Dc.stay (fun _ _ => rfl) (fun k hk => hk.2) _ _ _ hxd) hxc hxn
  rw [TP.out rfl] at PQ
  have HPQ := hidd PQ
  have p0 : w5.cell? ⟨w4.heap.size, 0, none⟩ = some _ := (cellO x5).trans rfl
  have p1 : w5.cell? ⟨w4.heap.size, 1, none⟩ = some _ := (cellO x5).trans rfl
  have p2 : w5.cell? ⟨w4.heap.size, 2, none⟩ = some _ := (cellO x5).trans rfl
  have p3 : w5.cell? ⟨w4.heap.size, 3, none⟩ = some _ := (cellO x5).trans rfl
  have p4 : w5.cell? ⟨w4.heap.size, 4, none⟩ = some _ := (cellO x5).trans rfl
  have p5 : w5.cell? ⟨w4.heap.size, 5, none⟩ = some _ := (cellO x5).trans rfl
  clear x5 hxn hxc hxd PQ TP PB
  unfold dv at HPQ
  go_wp2_with fail
  refine HPQ.out.mono ?_
  rintro e w6 ⟨hb6, ea2, ne2, ec2, ia2, ni2, ic2, ba2, nb2, bc2, rfl, hlm2⟩
  obtain ⟨V6, hV6⟩ : ∃ V, V = w6.alloc (.cells #[.string s.name, .slice ea2 ne2 ec2, .slice ia2 ni2 ic2, .slice ba2 nb2 bc2] 30) := ⟨_, rfl⟩
  have b6 : Below w6.heap.size w6 V6 := by rw [hV6]; exact (Below.refl _ _).alloc (Nat.le_refl _) _
  have x6 : V6.heap[w6.heap.size]? = some (.cells #[.string s.name, .slice ea2 ne2 ec2, .slice ia2 ni2 ic2, .slice ba2 nb2 bc2] 30 (0, 0)) := by rw [hV6]; exact World.alloc_heap_new w6 _
  have b36 : Below V3.heap.size V3 V6 := G6.out.1.trans ((hb6.trans (b6.mono hb6.size)).mono G6.out.1.size)
  have x3 := (b36.block _ (Array.getElem?_eq_some_iff.1 G4.out.2.1).1).trans G4.out.2.1
  have SM := hidd (same_any V6.heap.size s _ _ _ _ _ _ V6 (Nat.le_refl _) (G4.out.2.2.stay (fun k hk => b36.block k hk) (fun k hk => Nat.lt_of_lt_of_le hk b36.size)) (hlm2.stay (ok' := fun k => k < V6.heap.size) (fun k hk => b6.block k hk.2) (fun k hk => Nat.lt_of_lt_of_le hk.2 b6.size)) MU2.out.1.e MU2.out.1.i MU2.out.2)
  have HBV6 : Hid (Below w.heap.size w V6) := G4.out.1.trans (b36.mono G4.out.1.size)
  have QV6 := hidd hV6.symm
  have s0 : V6.cell? ⟨w3.heap.size, 0, none⟩ = some _ := (cellO x3).trans rfl
  have s1 : V6.cell? ⟨w3.heap.size, 1, none⟩ = some _ := (cellO x3).trans rfl
  have s2 : V6.cell? ⟨w3.heap.size, 2, none⟩ = some _ := (cellO x3).trans rfl
  have s3 : V6.cell? ⟨w3.heap.size, 3, none⟩ = some _ := (cellO x3).trans rfl
  have t0 : V6.cell? ⟨w6.heap.size, 0, none⟩ = some _ := (cellO x6).trans rfl
  have t1 : V6.cell? ⟨w6.heap.size, 1, none⟩ = some _ := (cellO x6).trans rfl
  have t2 : V6.cell? ⟨w6.heap.size, 2, none⟩ = some _ := (cellO x6).trans rfl
  have t3 : V6.cell? ⟨w6.heap.size, 3, none⟩ = some _ := (cellO x6).trans rfl
  clear hb6 hlm2 hV6 b6 x6 b36 x3 HPQ p0 p1 p2 p3 p4 p5
  simp only [libOf, errOf] at QV6 ⊢
  go_upto_region 10 with fail
  rw [QV6.out]
  clear QV6
  go_wp2_with fail
  refine SM.out.mono ?_
  rintro e w7 ⟨rfl, hb7⟩
  have HB7 : Hid (Below w.heap.size w w7) := HBV6.out.trans (hb7.mono HBV6.out.size)
  clear hb7 SM
  go_wp2_with fail
  go_ret
  exact ⟨rfl, HB7.out⟩
end
end Go.Proofs.YtonafbennobgdaaGreatDoor
