/- Chapter 3: what Show makes of names, of what a library is called. Chapter 3: what Show makes of what a library is called. Chapter 3: what Show makes of a body. Chapter 3: what Show makes of a name that is brought out. -/
import Derived.Test.YtonafbennobgdaaGreatDoorK17
import Derived.Test.YtonafbennobgdaaGreatDoorK34
import Derived.Test.YtonafbennobgdaaGreatDoorK40
import Derived.Test.YtonafbennobgdaaGreatDoorK41
import Derived.Test.YtonafbennobgdaaGreatDoorK42
namespace Go.Proofs.YtonafbennobgdaaGreatDoor
set_option linter.unusedVariables false
set_option linter.unusedSimpArgs false
section
open Go.RowKit

theorem row_lie (ok : Nat → Prop) (W : World) (es : List (Dat × Option Addr × Nat)) (hl : es.length ≤ 100) (h : ∀ e ∈ es, DE ok W e.1 e.2.1 e.2.2) :
  ∃ f, Dc (fun b => (ok b ∨ b = W.heap.size) ∧ b < W.heap.size + 1) (W.alloc (.cells (flat es).toArray 26)) f (some ⟨W.heap.size, 0, none⟩) (es.map (·.1)) := by
 have hr := RowE.made ok W es (by simp [maxLen]; omega) h
 obtain ⟨a, cap, f, hv, hc, hd⟩ := hr.lie (ok' := fun b => ok b ∨ b = W.heap.size) (by omega) (fun k hk => Or.inl hk) (fun k h1 h2 => Or.inr (by simp at h2; omega))
 simp at hv
 rw [hv.1]
 exact ⟨f, Dc.stay (fun _ _ => rfl) (fun k hk => ⟨hk.1, by have := hk.2; simp at this; exact this⟩) _ _ _ hd⟩
set_option maxRecDepth 100000 in
set_option maxHeartbeats 6400000 in
theorem symbols90 (l : List ByteArray) (a : Option Addr) (c : Nat) (w : World) (hl : SV (fun k => k < w.heap.size) l (.slice a l.length c) w) (hs : ∀ x ∈ l, x.size ≤ 1000) (hn : l.length ≤ 100000) :
  Calls Tryz.prog 90 #[.slice a l.length c] w fun e w' => Below w.heap.size w w' ∧ ∃ va vc es, e = .returned (.slice va es.length vc) ∧ es.map (·.1) = l.map syD ∧ RowE (fun b => w.heap.size ≤ b) w.heap.size (.slice va es.length vc) es w' := by
 have HD : Hid (∀ W j x, Below w.heap.size w W → l[j]? = some x → (∃ b o, a = some ⟨b, o, none⟩ ∧ W.cell? ⟨b, o + j, none⟩ = some (.string x)) ∧ x.size ≤ 1000) := fun W j x hb hj => ⟨(hl.stay (ok' := fun _ => True) (w' := W) (fun k hk => hb.block k hk) (fun _ _ => trivial)).look hj, hs x (List.mem_of_getElem? hj)⟩
 have HL : Hid (∀ j, j < l.length → ∃ d, l[j]? = some d) := fun j hj => ⟨_, List.getElem?_eq_getElem hj⟩
 obtain ⟨n, hn'⟩ : ∃ n, n = l.length := ⟨_, rfl⟩
 have HN := hidd hn'
 rw [← hn'] at hn HL ⊢
 clear hl hs hn'
 go_enter Tryz.func90, Tryz.ntmps90
 go_wp2_with fail
 go_loopw [3, 5, 8] (fun v _ ix wr => ∃ (j : Nat) (es : List (Dat × Option Addr × Nat)), j ≤ n ∧ ix = .int .i64 j ∧ Hid (es.length = j) ∧ Hid (Below w.heap.size w wr ∧ RowE (fun b => w.heap.size ≤ b) w.heap.size v es wr ∧ es.map (·.1) = (l.take j).map syD)) (fun _ _ ix _ => n - (intOf ix).toNat)
 case atStart => exact ⟨0, [], Nat.zero_le _, rfl, rfl, Below.refl _ _, RowE.nil _ _ _, by simp⟩
 case round =>
  obtain ⟨j, es, hj, rfl, HJ, HR⟩ := hrel
  obtain ⟨va, vc, rfl, hvc⟩ := own_sliceL HR.out.2.1.own
  have hl : es.length ≤ 100000 := by have := HJ.out; omega
  by_cases hlt : j < n
  ·obtain ⟨x, hxj⟩ := HL.out j hlt
   obtain ⟨⟨b, o, rfl, c0⟩, hx⟩ := HD.out wr j x HR.out.1 hxj
   have i1 : (0 : Int) ≤ (j : Int) := by omega
   have i2 : (j : Int) < (n : Int) := by omega
   have HC := hidd (symbol67 x wr (by omega))
   have HST : Hid ((l.take (j + 1)).map syD = (l.take j).map syD ++ [syD x]) := by
    show _ = _
    rw [List.take_add_one, List.map_append, hxj]
    rfl
   obtain ⟨d, hd⟩ : ∃ d, d = syD x := ⟨_, rfl⟩
   have HDX : Hid (∀ ok W, DE ok W d none 0) := fun ok W => by rw [hd]; exact DE.sym ok W (by unfold maxLen; omega)
   rw [← hd] at HC HST
   clear hxj hd hx
   unfold dv at HC
   go_wp2_with fail
   refine HC.out.mono ?_
   rintro e w2 ⟨rfl, hb2⟩
   have HR2 : Hid (Below w.heap.size w w2 ∧ RowE (fun b => w.heap.size ≤ b) w.heap.size (.slice va es.length vc) es w2) := ⟨HR.out.1.trans (hb2.mono HR.out.1.size), HR.out.2.1.below hb2⟩
   obtain ⟨sf, hsf⟩ := row_lie (fun b => False) w2 [(d, none, 0)] (by simp) (fun e he => by simp at he; subst he; exact HDX.out _ _)
   have B3 : Hid (Below w2.heap.size w2 (w2.alloc (.cells #[.int .i64 d.kind, .int .i64 d.n, .string d.name, .int .i64 d.stamp, .int .i64 d.lib, .slice none d.kids.length 0] 26))) := (Below.refl _ _).alloc (Nat.le_refl _) _
   have HSF : Hid (Dc (fun b => w.heap.size ≤ b ∧ b < (w2.alloc (.cells #[.int .i64 d.kind, .int .i64 d.n, .string d.name, .int .i64 d.stamp, .int .i64 d.lib, .slice none d.kids.length 0] 26)).heap.size ∧ some b ≠ (Value.slice va es.length vc).ownBlock) (w2.alloc (.cells #[.int .i64 d.kind, .int .i64 d.n, .string d.name, .int .i64 d.stamp, .int .i64 d.lib, .slice none d.kids.length 0] 26)) sf (some ⟨w2.heap.size, 0, none⟩) [d]) := Dc.stay (fun _ _ => rfl) (fun k hk => by
    have h1 := hk.2
    rcases hk.1 with h | h
    ·exact absurd h id
    ·subst h
     exact ⟨HR2.out.1.size, by simp, fun e => by have := (HR2.out.2.own.lt _ e.symm).2; omega⟩) _ _ _ hsf
   obtain ⟨ll, hll⟩ : ∃ ll, ll = [d] := ⟨_, rfl⟩
   have HLL := hidd hll
   rw [← hll] at HSF
   clear hb2 hsf hll HC c0
   go_wp2_with (at_builtin; refine wpList_rowE rfl _ _ rfl (ok := fun b => w.heap.size ≤ b) (B := w.heap.size) (v := .slice va es.length vc) (es := es) (by exact HR2.out.2.below B3.out) (F := sf) (a := some ⟨w2.heap.size, 0, none⟩) (l := ll) (cap := 1) rfl (by rw [HLL.out]; rfl) HSF.out (Nat.le_trans HR2.out.1.size B3.out.size) (by rw [HLL.out]; simp; omega) ?_)
   intro v' w4 fs hfs hr4 hb4 hwo4 hg4
   have HE : Hid (Below w.heap.size w w4 ∧ RowE (fun b => w.heap.size ≤ b) w.heap.size v' (es ++ fs) w4 ∧ (es ++ fs).map (·.1) = (l.take (j + 1)).map syD ∧ (es ++ fs).length = j + 1) := by
    have hb : Below w.heap.size w w4 := HR2.out.1.trans ((B3.out.mono HR2.out.1.size).trans hb4)
    have hm : (es ++ fs).map (·.1) = (l.take (j + 1)).map syD := by rw [List.map_append, HR.out.2.2, hfs, HST.out, HLL.out]
    have hlen : fs.length = 1 := by have := congrArg List.length hfs; rw [List.length_map, HLL.out] at this; simpa using this
    exact ⟨hb, hr4, hm, by rw [List.length_append, HJ.out, hlen]⟩
   clear hfs hr4 hb4 hwo4 hg4 HSF HR2 B3
   go_wp2_with fail
   go_roundw
   case rel => exact ⟨j + 1, es ++ fs, hlt, by go_num, HE.out.2.2.2, HE.out.1, HE.out.2.1, HE.out.2.2.1⟩
   case measure => simp [intOf]; omega
  ·obtain rfl : j = n := by omega
   go_wp2_with fail
   go_ret
   exact ⟨HR.out.1, va, vc, es, rfl, by rw [HR.out.2.2, HN.out, List.take_length], HR.out.2.1⟩
theorem ret68 {ts : Array Value} {W : World} {R : Nat} {d : Dat} {v : Value} (h : Nod R d v W) (h6 : ts[2]? = some (.pointer (some ⟨R, 0, none⟩))) :
  (results Tryz.f68 ts).run Tryz.prog W = .ok (.agg #[.int .i64 d.kind, .int .i64 d.n, .string d.name, .int .i64 d.stamp, .int .i64 d.lib, v]) W := by
 obtain ⟨q, q0, q1, q2, q3, q4, q5, qz⟩ := h
 simp [results, Tryz.results68, go_sem, h6, q0, q1, q2, q3, q4, q5]
def TellF (d : Dat) (w : World) (e : Ending) (w' : World) : Prop := Below w.heap.size w w' ∧ ∃ a c, e = .returned (dv d a c) ∧ DE (fun b => w.heap.size ≤ b) w' d a c
theorem pieces_len (s : ByteArray) : (piecesB s).length = Lib.countB s ⟨#[32]⟩ + 1 := Lib.splitB_all ⟨#[32]⟩ (by decide) 0 _ s rfl
theorem join_mem : ∀ {l : List ByteArray} {x : ByteArray}, x ∈ l → x.size ≤ (joinL l).length
 | [], x, h => by simp at h
 | [y], x, h => by
  rw [List.mem_singleton] at h
  subst h
  rw [joinL]
  exact Nat.le_of_eq (by cases x; simp [ByteArray.size])
 | y :: z :: r, x, h => by
  rw [joinL, List.length_append, List.length_cons]
  rcases List.mem_cons.1 h with h | h
  ·subst h
   have : x.size = x.data.toList.length := by cases x; simp [ByteArray.size]
   omega
  ·have := join_mem h
   omega
end
section
open Go.RowKit

theorem rowE_tell {B R m : Nat} {va : Option Addr} {vc : Nat} {es : List (Dat × Option Addr × Nat)} {ks : List Dat} {ok : Nat → Prop} {w' : World} (hr : RowE ok B (.slice va m vc) es w') (hm : m = es.length) (hk : es.map (·.1) = ks) (hB : R ≤ B) (hok : ∀ k, ok k → R ≤ k) (hl : es.length ≤ 200000) : DE (fun b => R ≤ b) w' (liD ks) va vc := by
 obtain ⟨a, c, f, hv, hc, hd⟩ := hr.lie (ok' := fun b => R ≤ b) (by omega) hok (fun k h1 _ => Nat.le_trans hB h1)
 rw [hk] at hv hc hd
 have h1 : m = ks.length := by rw [hm, ← hk, List.length_map]
 simp only [Value.slice.injEq] at hv
 obtain ⟨rfl, _, rfl⟩ := hv
 exact ⟨Nat.zero_le _, hc, f, hd⟩
set_option maxRecDepth 100000 in
set_option maxHeartbeats 6400000 in
theorem shownCall68 (s : ByteArray) (m : Int) (w : World) (hm : w.cell? ⟨1, 0, none⟩ = some (.int .i64 m)) (hs : s.size ≤ 60) : Calls Tryz.prog 68 #[.string s] w (TellF (callD s) w) := by
 have hm1 := World.block_lt_of_cell? w ⟨1, 0, none⟩ hm
 simp only at hm1
 obtain ⟨W1, hW1⟩ : ∃ W1, W1 = w.alloc (.cells #[.int .i64 0, .int .i64 0, .string ⟨#[]⟩, .int .i64 0, .int .i64 0, .slice none 0 0] 26) := ⟨_, rfl⟩
 have hb1 : Below w.heap.size w W1 := by rw [hW1]; exact (Below.refl _ _).alloc (Nat.le_refl _) _
 have N1 : Hid (Nod w.heap.size ⟨0, 0, ⟨#[]⟩, 0, 0, []⟩ (.slice none 0 0) W1) := by rw [hW1]; exact Nod.made w ⟨0, 0, ⟨#[]⟩, 0, 0, []⟩ (.slice none 0 0)
 have hsz : W1.heap.size = w.heap.size + 1 := by rw [hW1]; simp
 have HB1 : Hid (Below w.heap.size w W1 ∧ W1.heap.size = w.heap.size + 1) := ⟨hb1, hsz⟩
 have SP := hidd (Tryz.strings_Split s ⟨#[32]⟩ m W1 (by omega) ((hb1.cell (p := ⟨1, 0, none⟩) hm1).trans hm) (by decide))
 obtain ⟨W2, hW2⟩ : ∃ W2, W2 = W1.alloc (.cells ((Lib.splitB ⟨#[32]⟩ 0 (Lib.countB s ⟨#[32]⟩) s).map Value.string).toArray 9) := ⟨_, rfl⟩
 have hb2 : Below W1.heap.size W1 W2 := by rw [hW2]; exact (Below.refl _ _).alloc (Nat.le_refl _) _
 have hpl := pieces_len s
 have hps : ∀ x ∈ piecesB s, x.size ≤ 60 := fun x hx => by
  have h1 := join_mem hx
  have h2 := join_pieces s
  unfold joinB at h2
  have h3 : (joinL (piecesB s)).length = s.size := List.size_toArray.symm.trans (congrArg ByteArray.size h2)
  omega
 have hcnt : Lib.countB s ⟨#[32]⟩ ≤ 60 := Nat.le_trans (Lib.countB_le ⟨#[32]⟩ (by decide) s.size s (Nat.le_refl _)) hs
 have SY := hidd (symbols90 (piecesB s) (some ⟨W1.heap.size, 0, none⟩) (Lib.countB s ⟨#[32]⟩ + 1) W2 ⟨_, _, rfl, by omega, Or.inr ⟨W1.heap.size, 0, rfl, by rw [hW2]; simp, fun j x hj => by
  have hx : W2.heap[W1.heap.size]? = some (.cells ((piecesB s).map Value.string).toArray 9 (0, 0)) := by rw [hW2]; exact World.alloc_heap_new W1 _
  refine (cellO (q := 0 + j) hx).trans ?_
  rw [Nat.zero_add]
  simp [hj]⟩⟩ (fun x hx => by have := hps x hx; omega) (by omega))
 rw [hpl] at SY
 have HB2 : Hid (Below w.heap.size w W2 ∧ Below W1.heap.size W1 W2) := ⟨hb1.trans (hb2.mono hb1.size), hb2⟩
 have HPL : Hid (piecesB s ≠ [] ∧ (piecesB s).length ≤ 61) := ⟨pieces_ne s, by omega⟩
 generalize Lib.countB s ⟨#[32]⟩ + 1 = cn at *
 have HW := hidd hW1.symm
 have HW2 := hidd hW2.symm
 rw [← hW2] at SP
 clear hm hs hm1 hb1 hsz hW1 hW2 hb2 hpl hps hcnt
 go_enter Tryz.func68, Tryz.ntmps68
 go_upto_region 1 with fail
 rw [HW.out]
 clear HW
 go_wp2_with fail
 refine SP.out.mono ?_
 rintro e w2 ⟨rfl, he2⟩
 rw [he2]
 clear he2 w2
 go_wp2_with fail
 refine SY.out.mono ?_
 rintro e w3 ⟨hb3, va, vc, es, rfl, hes, hre⟩
 have G3 : Hid (Below w.heap.size w w3 ∧ Below W1.heap.size W1 w3) := ⟨HB2.out.1.trans (hb3.mono HB2.out.1.size), HB2.out.2.trans (hb3.mono HB2.out.2.size)⟩
 have N3 := N1.out.after G3.out.2
 have NH := hidd N3
 obtain ⟨q, q0, q1, q2, q3, q4, q5, qz⟩ := N3
 simp only at q0 q1 q2 q3 q4 q5
 obtain ⟨m2, hm2⟩ : ∃ m, m = es.length := ⟨_, rfl⟩
 have hee : es.map (·.1) = (piecesB s).map syD := hes
 have hlen : es.length ≤ 200000 := by
  have h1 := congrArg List.length hee
  rw [List.length_map, List.length_map] at h1
  have := HPL.out.2
  omega
 have HRE : Hid (RowE (fun b => W2.heap.size ≤ b) W2.heap.size (.slice va m2 vc) es w3 ∧ es.map (·.1) = (piecesB s).map syD ∧ m2 = es.length ∧ es.length ≤ 200000) := ⟨by rw [hm2]; exact hre, hee, hm2, hlen⟩
 rw [← hm2]
 clear hb3 hes hre hee hlen hm2 SY SP
 go_wp2_with fail
 refine bodyPost_ret (ret68 (NH.out.store (liD ((piecesB s).map syD)) (.slice va m2 vc)) rfl) rfl ?_
 refine ⟨below_sixN G3.out.1 (Nat.le_refl _) _ _ _ _ _ _, va, vc, ?_, ?_⟩
 ·have : m2 = ((piecesB s).map syD).length := by rw [HRE.out.2.2.1, ← HRE.out.2.1, List.length_map]
  rw [this]
  rfl
 ·have hr := HRE.out.1
  have h1 := HB1.out.2
  have h2 := HB2.out.2.size
  exact rowE_tell (hr.keep (((((((Keep.refl (w.heap.size) w3).setCell ⟨w.heap.size, 0, none⟩ rfl _).setCell ⟨w.heap.size, 1, none⟩ rfl _).setCell ⟨w.heap.size, 2, none⟩ rfl _).setCell ⟨w.heap.size, 3, none⟩ rfl _).setCell ⟨w.heap.size, 4, none⟩ rfl _).setCell ⟨w.heap.size, 5, none⟩ rfl _) (fun e => by have h3 := (hr.own.lt _ e).1; omega) (fun k hk => by omega)) HRE.out.2.2.1 HRE.out.2.1 (by omega) (fun k hk => by omega) HRE.out.2.2.2
end
section
open Go.RowKit

theorem ret65 {ts : Array Value} {W : World} {R : Nat} {d : Dat} {v : Value} (h : Nod R d v W) (h6 : ts[2]? = some (.pointer (some ⟨R, 0, none⟩))) :
  (results Tryz.f65 ts).run Tryz.prog W = .ok (.agg #[.int .i64 d.kind, .int .i64 d.n, .string d.name, .int .i64 d.stamp, .int .i64 d.lib, v]) W := by
 obtain ⟨q, q0, q1, q2, q3, q4, q5, qz⟩ := h
 simp [results, Tryz.results65, go_sem, h6, q0, q1, q2, q3, q4, q5]
set_option maxRecDepth 100000 in
set_option maxHeartbeats 12800000 in
theorem shownBody65 (l : List Dat) (a : Option Addr) (c F : Nat) (w : World) (hd : Dc (fun k => k < w.heap.size) w F a l) (hc : l.length ≤ c) (hn : l.length ≤ 200) (hr : ∀ d ∈ l, (wrong [d]).1 = 0) (ho : okL l) :
  Calls Tryz.prog 65 #[.slice a l.length c] w (TellF (liD (syD bBegin :: bareQL l)) w) := by
 obtain ⟨W1, hW1⟩ : ∃ W1, W1 = w.alloc (.cells #[.int .i64 0, .int .i64 0, .string ⟨#[]⟩, .int .i64 0, .int .i64 0, .slice none 0 0] 26) := ⟨_, rfl⟩
 have hb1 : Below w.heap.size w W1 := by rw [hW1]; exact (Below.refl _ _).alloc (Nat.le_refl _) _
 have hsz : W1.heap.size = w.heap.size + 1 := by rw [hW1]; simp
 have N1 : Hid (Nod w.heap.size ⟨0, 0, ⟨#[]⟩, 0, 0, []⟩ (.slice none 0 0) W1) := by rw [hW1]; exact Nod.made w ⟨0, 0, ⟨#[]⟩, 0, 0, []⟩ (.slice none 0 0)
 have HB1 : Hid (Below w.heap.size w W1 ∧ W1.heap.size = w.heap.size + 1) := ⟨hb1, hsz⟩
 have HD : Hid (∀ W j d, Below w.heap.size w W → l[j]? = some d → ∃ b o a' cap' g, a = some ⟨b, o, none⟩ ∧ DAt (fun k => k < w.heap.size) W b (o + j * 6) d a' cap' ∧ Dc (fun k => k < w.heap.size) W g a' d.kids) := fun W j d hb hj => by
  obtain ⟨g, b, o, a', cap', h0, h1, h2, h3⟩ := hd.at hj
  exact ⟨b, o, a', cap', g, h1, h2.below hb, h3.below hb⟩
 have HRG : Hid (∀ j d, l[j]? = some d → ∃ y, wrong [d] = (0, y)) := fun j d hj => ⟨(wrong [d]).2, Prod.ext (hr d (List.mem_of_getElem? hj)) rfl⟩
 have HL : Hid (∀ j, j < l.length → ∃ d, l[j]? = some d) := fun j hj => ⟨_, List.getElem?_eq_getElem hj⟩
 have CP : Hid (∀ W, Below w.heap.size w W → Calls Tryz.prog 88 #[.slice a l.length c] W fun e w' => Below W.heap.size W w' ∧ ∃ v es, e = .returned v ∧ es.map (·.1) = bareQL l ∧ RowC W.heap.size v es w') := fun W hb => copied_any W.heap.size F l a c W (Nat.le_refl _) (Dc.stay (fun k hk => hb.block k hk) (fun k hk => Nat.lt_of_lt_of_le hk hb.size) _ _ _ hd) (by omega) hc ho
 have MU : Hid (∀ W, Calls Tryz.prog 54 #[.bool true, .int .i64 0] W fun e w' => e = .returned (.tuple #[]) ∧ w' = W) := fun W => must_yes 0 W
 have SB : Hid (∀ W, Calls Tryz.prog 67 #[.string bBegin] W fun e w' => e = .returned (dv (syD bBegin) none 0) ∧ Below W.heap.size W w') := fun W => symbol67 bBegin W (by decide)
 have DB : Hid (∀ ok W, DE ok W (syD bBegin) none 0) := fun ok W => DE.sym ok W (by decide)
 have HBL : Hid ((bareQL l).length ≤ 200) := by show _ ≤ _; rw [bareQL_map, List.length_map]; exact hn
 obtain ⟨n, hn'⟩ : ∃ n, n = l.length := ⟨_, rfl⟩
 have HN := hidd hn'
 rw [← hn'] at hn HL CP ⊢
 generalize bareQL l = bl at *
 generalize syD bBegin = dw at *
 have HW := hidd hW1.symm
 clear hd hc hr ho hn' hW1 hb1 hsz
 go_enter Tryz.func65, Tryz.ntmps65
 go_upto_region 1 with fail
 rw [HW.out]
 clear HW
 go_wp2_with fail
 go_loopw [4, 5, 8] (fun _ _ ix wr => ∃ (j : Nat), j ≤ n ∧ ix = .int .i64 j ∧ Hid (Below W1.heap.size W1 wr)) (fun _ _ ix _ => n - (intOf ix).toNat)
 case atStart => exact ⟨0, Nat.zero_le _, rfl, Below.refl _ _⟩
 case round =>
  obtain ⟨j, hj, rfl, HI⟩ := hrel
  by_cases hlt : j < n
  ·obtain ⟨d, hdj⟩ := HL.out j hlt
   obtain ⟨b, o, a', cap', g0, rfl, hA, hK⟩ := HD.out wr j d (HB1.out.1.trans (HI.out.mono HB1.out.1.size)) hdj
   obtain ⟨hbb, c0, c1, c2, c3, c4, c5, hnm, hlk⟩ := hA
   obtain ⟨y, hy⟩ := HRG.out j d hdj
   have i1 : (0 : Int) ≤ (j : Int) := by omega
   have i2 : (j : Int) < (n : Int) := by omega
   obtain ⟨V, hV⟩ : ∃ V, V = wr.alloc (.cells #[.int .i64 d.kind, .int .i64 d.n, .string d.name, .int .i64 d.stamp, .int .i64 d.lib, .slice a' d.kids.length cap'] 26) := ⟨_, rfl⟩
   have bV : Below wr.heap.size wr V := by rw [hV]; exact (Below.refl _ _).alloc (Nat.le_refl _) _
   have xV : V.heap[wr.heap.size]? = some (.cells #[.int .i64 d.kind, .int .i64 d.n, .string d.name, .int .i64 d.stamp, .int .i64 d.lib, .slice a' d.kids.length cap'] 26 (0, 0)) := by rw [hV]; exact World.alloc_heap_new wr _
   have hsw : w.heap.size ≤ wr.heap.size := Nat.le_trans HB1.out.1.size HI.out.size
   obtain ⟨sf, hsf⟩ := row_lie (fun _ => True) V [(d, a', cap')] (by simp) (fun e he => by
    simp at he
    subst he
    exact ⟨hnm, hlk, g0, Dc.stay (fun k hk => bV.block k (Nat.lt_of_lt_of_le hk hsw)) (fun k hk => ⟨trivial, Nat.lt_of_lt_of_le (Nat.lt_of_lt_of_le hk hsw) bV.size⟩) _ _ _ hK⟩)
   have WR := hidd (Wrong_any (V.alloc (.cells #[.int .i64 d.kind, .int .i64 d.n, .string d.name, .int .i64 d.stamp, .int .i64 d.lib, .slice a' d.kids.length cap'] 26)).heap.size sf [d] (some ⟨V.heap.size, 0, none⟩) 1 (V.alloc (.cells #[.int .i64 d.kind, .int .i64 d.n, .string d.name, .int .i64 d.stamp, .int .i64 d.lib, .slice a' d.kids.length cap'] 26)) (Dc.lies (fun k hk => by have := hk.2; simpa using this) sf _ _ hsf) (Nat.le_refl _))
   rw [hy] at WR
   have HBV : Hid (Below wr.heap.size wr V ∧ Below wr.heap.size wr (V.alloc (.cells #[.int .i64 d.kind, .int .i64 d.n, .string d.name, .int .i64 d.stamp, .int .i64 d.lib, .slice a' d.kids.length cap'] 26))) := ⟨bV, bV.alloc bV.size _⟩
   have QV := hidd hV.symm
   have v0 : V.cell? ⟨wr.heap.size, 0, none⟩ = some _ := (cellO xV).trans rfl
   have v1 : V.cell? ⟨wr.heap.size, 1, none⟩ = some _ := (cellO xV).trans rfl
   have v2 : V.cell? ⟨wr.heap.size, 2, none⟩ = some _ := (cellO xV).trans rfl
   have v3 : V.cell? ⟨wr.heap.size, 3, none⟩ = some _ := (cellO xV).trans rfl
   have v4 : V.cell? ⟨wr.heap.size, 4, none⟩ = some _ := (cellO xV).trans rfl
   have v5 : V.cell? ⟨wr.heap.size, 5, none⟩ = some _ := (cellO xV).trans rfl
   clear hV bV xV hsf hK hdj hy hsw hbb
   go_upto_region 4 with fail
   rw [QV.out]
   clear QV c0 c1 c2 c3 c4 c5
   unfold fv at WR
   go_wp2_with fail
   refine WR.out.mono ?_
   rintro e w2 ⟨rfl, hb2⟩
   have HB2 : Hid (Below wr.heap.size wr w2) := HBV.out.2.trans (hb2.mono HBV.out.2.size)
   obtain ⟨V2, hV2⟩ : ∃ V2, V2 = w2.alloc (.cells #[.int .i64 0, .int .i64 y] 40) := ⟨_, rfl⟩
   have bV2 : Below w2.heap.size w2 V2 := by rw [hV2]; exact (Below.refl _ _).alloc (Nat.le_refl _) _
   have xV2 : V2.heap[w2.heap.size]? = some (.cells #[.int .i64 0, .int .i64 y] 40 (0, 0)) := by rw [hV2]; exact World.alloc_heap_new w2 _
   have HB3 : Hid (Below W1.heap.size W1 V2) := HI.out.trans ((HB2.out.trans (bV2.mono HB2.out.size)).mono HI.out.size)
   have u0 : V2.cell? ⟨w2.heap.size, 0, none⟩ = some (.int .i64 0) := (cellO xV2).trans rfl
   have QV2 := hidd hV2.symm
   clear hb2 hV2 bV2 xV2 WR v0 v1 v2 v3 v4 v5
   go_upto_region 5 with fail
   rw [QV2.out]
   clear QV2
   go_wp2_with fail
   refine (MU.out V2).mono ?_
   rintro e w3 ⟨rfl, rfl⟩
   go_wp2_with fail
   go_roundw
   case rel => exact ⟨j + 1, hlt, by go_num, HB3.out⟩
   case measure => simp [intOf]; omega
  ·obtain rfl : j = n := by omega
   have HBW : Hid (Below w.heap.size w wr) := HB1.out.1.trans (HI.out.mono HB1.out.1.size)
   clear HL HRG HD MU
   unfold dv at SB
   go_wp2_with fail
   refine (SB.out wr).mono ?_
   rintro e w2 ⟨rfl, hb2⟩
   have HB2 : Hid (Below w.heap.size w w2 ∧ Below wr.heap.size wr w2) := ⟨HBW.out.trans (hb2.mono HBW.out.size), hb2⟩
   clear hb2
   go_wp2_with fail
   refine (CP.out w2 HB2.out.1).mono ?_
   rintro e w3 ⟨hb3, v, es, rfl, hes, hre⟩
   obtain ⟨va, vc, vf, rfl, hvc, hvd⟩ := hre.lie (by have h1 := congrArg List.length hes; rw [List.length_map] at h1; have := HBL.out; omega)
   rw [hes] at hvc hvd ⊢
   have HL66 := hidd (list66 (fun b => w2.heap.size ≤ b) dw none 0 bl va vc vf w3 (DB.out _ _) hvd (by have := HBL.out; omega))
   have HB3 : Hid (Below w.heap.size w w3 ∧ Below W1.heap.size W1 w3 ∧ W1.heap.size ≤ w2.heap.size) := ⟨HB2.out.1.trans (hb3.mono HB2.out.1.size), HI.out.trans ((HB2.out.2.trans (hb3.mono HB2.out.2.size)).mono HI.out.size), Nat.le_trans HI.out.size HB2.out.2.size⟩
   obtain ⟨nb, hnb⟩ : ∃ nb, nb = bl.length := ⟨_, rfl⟩
   rw [← hnb] at HL66 ⊢
   clear hb3 hes hre hvc hvd CP SB hnb
   unfold dv at HL66
   go_wp2_with fail
   refine HL66.out.mono ?_
   rintro e w4 ⟨hb4, qa, qc, eq, rfl, heq, hrq⟩
   have HB4 : Hid (Below w.heap.size w w4 ∧ Below W1.heap.size W1 w4 ∧ W1.heap.size ≤ w3.heap.size) := ⟨HB3.out.1.trans (hb4.mono HB3.out.1.size), HB3.out.2.1.trans (hb4.mono HB3.out.2.1.size), HB3.out.2.1.size⟩
   obtain ⟨m, hm⟩ : ∃ m, m = eq.length := ⟨_, rfl⟩
   have HX : Hid (eq.map (·.1) = dw :: bl ∧ m = eq.length ∧ eq.length ≤ 200000 ∧ RowE (fun b => w2.heap.size ≤ b ∧ b < w3.heap.size) w3.heap.size (.slice qa m qc) eq w4) := ⟨heq, hm, by have h1 := congrArg List.length heq; rw [List.length_map, List.length_cons] at h1; have := HBL.out; omega, by rw [hm]; exact hrq⟩
   rw [← hm]
   have N3 := N1.out.after HB4.out.2.1
   have NH := hidd N3
   obtain ⟨q, q0, q1, q2, q3, q4, q5, qz⟩ := N3
   simp only at q0 q1 q2 q3 q4 q5
   clear hb4 heq hrq hm HL66
   unfold dvK
   go_wp2_with fail
   have hl : m = (dw :: bl).length := by rw [HX.out.2.1, ← HX.out.1, List.length_map]
   refine bodyPost_ret (ret65 (NH.out.store (liD (dw :: bl)) (.slice qa m qc)) rfl) rfl ?_
   refine ⟨below_sixN HB4.out.1 (Nat.le_refl _) _ _ _ _ _ _, qa, qc, by rw [hl]; rfl, ?_⟩
   have hr := HX.out.2.2.2
   have h1 := HB1.out.2
   have h2 := HB3.out.2.2
   have h3 := HB4.out.2.2
   exact rowE_tell (hr.keep (((((((Keep.refl (w.heap.size) w4).setCell ⟨w.heap.size, 0, none⟩ rfl _).setCell ⟨w.heap.size, 1, none⟩ rfl _).setCell ⟨w.heap.size, 2, none⟩ rfl _).setCell ⟨w.heap.size, 3, none⟩ rfl _).setCell ⟨w.heap.size, 4, none⟩ rfl _).setCell ⟨w.heap.size, 5, none⟩ rfl _) (fun e => by have h3 := (hr.own.lt _ e).1; omega) (fun k hk => by omega)) HX.out.2.1 HX.out.1 (by omega) (fun k hk => by omega) HX.out.2.2.1
end
section
open Go.RowKit
set_option maxRecDepth 100000
set_option maxHeartbeats 6400000

theorem ret92 {ts : Array Value} {W : World} {R : Nat} {d : Dat} {v : Value} (h : Nod R d v W) (h6 : ts[2]? = some (.pointer (some ⟨R, 0, none⟩))) :
  (results Tryz.f92 ts).run Tryz.prog W = .ok (.agg #[.int .i64 d.kind, .int .i64 d.n, .string d.name, .int .i64 d.stamp, .int .i64 d.lib, v]) W := by
 obtain ⟨q, q0, q1, q2, q3, q4, q5, qz⟩ := h
 simp [results, Tryz.results92, go_sem, h6, q0, q1, q2, q3, q4, q5]
theorem TellR.len {ok : Nat → Prop} {ks : List Dat} {a : Option Addr} {c : Nat} {es : List (Dat × Option Addr × Nat)} {w : World} (h : es.map (·.1) = ks) : es.length = ks.length := by rw [← h, List.length_map]
theorem shownExport92_same (h t : ByteArray) (w : World) (hs : h.size ≤ 1000) (hq : h = t) : Calls Tryz.prog 92 #[.agg #[.string h, .string t]] w (TellF (expD (h, t)) w) := by
 obtain ⟨W1, hW1⟩ : ∃ W1, W1 = (w.alloc (.cells #[.string h, .string t] 70)).alloc (.cells #[.int .i64 0, .int .i64 0, .string ⟨#[]⟩, .int .i64 0, .int .i64 0, .slice none 0 0] 26) := ⟨_, rfl⟩
 have hb1 : Below w.heap.size w W1 := by rw [hW1]; exact ((Below.refl _ _).alloc (Nat.le_refl _) _).alloc (by simp) _
 have bx : W1.heap[w.heap.size]? = some (.cells #[.string h, .string t] 70 (0, 0)) := by rw [hW1, Below.heap_alloc _ _ _ (by simp)]; exact World.alloc_heap_new w _
 have N0 : Nod (w.alloc (.cells #[.string h, .string t] 70)).heap.size ⟨0, 0, ⟨#[]⟩, 0, 0, []⟩ (.slice none 0 0) _ := Nod.made (w.alloc (.cells #[.string h, .string t] 70)) ⟨0, 0, ⟨#[]⟩, 0, 0, []⟩ (.slice none 0 0)
 have N1 : Hid (Nod (w.heap.size + 1) ⟨0, 0, ⟨#[]⟩, 0, 0, []⟩ (.slice none 0 0) W1) := by
  show Nod _ _ _ _
  rw [hW1]
  simpa using N0
 have m0 : W1.cell? ⟨w.heap.size, 0, none⟩ = some _ := (cellO bx).trans rfl
 have m1 : W1.cell? ⟨w.heap.size, 1, none⟩ = some _ := (cellO bx).trans rfl
 have HC := hidd (symbol67 h W1 (by omega))
 have HB1 := hidd hb1
 have HW := hidd hW1.symm
 have HX : Hid (expD (h, t) = syD h) := by show _ = _; unfold expD; rw [if_pos hq]
 have g1 : (h.toList == t.toList) = true := by rw [hq]; simp
 have HS := hidd hs
 have HQ := hidd hq
 clear hW1 hb1 bx N0 hs hq
 rw [HX.out]
 go_enter Tryz.func92, Tryz.ntmps92
 go_upto_region 1 with fail
 rw [HW.out]
 clear HW
 go_wp2_with fail
 refine HC.out.mono ?_
 rintro e w2 ⟨rfl, hb2⟩
 have N2 := N1.out.after (by exact hb2)
 have HB2 : Hid (Below w.heap.size w w2) := HB1.out.trans (hb2.mono HB1.out.size)
 have NH := hidd N2
 obtain ⟨q, q0, q1, q2, q3, q4, q5, qz⟩ := N2
 simp only at q0 q1 q2 q3 q4 q5
 clear hb2 HC m0 m1
 unfold dv
 go_wp2_with fail
 refine bodyPost_ret (ret92 (NH.out.store (syD h) (.slice none 0 0)) rfl) rfl ?_
 exact ⟨below_sixN HB2.out (Nat.le_succ _) _ _ _ _ _ _, none, 0, rfl, DE.sym _ _ (by have := HS.out; unfold maxLen; omega)⟩
theorem shownExport92_else (h t : ByteArray) (w : World) (hs : h.size ≤ 1000) (ht : t.size ≤ 1000) (hq : ¬ h = t) : Calls Tryz.prog 92 #[.agg #[.string h, .string t]] w (TellF (expD (h, t)) w) := by
 obtain ⟨W1, hW1⟩ : ∃ W1, W1 = (w.alloc (.cells #[.string h, .string t] 70)).alloc (.cells #[.int .i64 0, .int .i64 0, .string ⟨#[]⟩, .int .i64 0, .int .i64 0, .slice none 0 0] 26) := ⟨_, rfl⟩
 have hb1 : Below w.heap.size w W1 := by rw [hW1]; exact ((Below.refl _ _).alloc (Nat.le_refl _) _).alloc (by simp) _
 have hsz : W1.heap.size = w.heap.size + 2 := by rw [hW1]; simp
 have bx : W1.heap[w.heap.size]? = some (.cells #[.string h, .string t] 70 (0, 0)) := by rw [hW1, Below.heap_alloc _ _ _ (by simp)]; exact World.alloc_heap_new w _
 have N0 : Nod (w.alloc (.cells #[.string h, .string t] 70)).heap.size ⟨0, 0, ⟨#[]⟩, 0, 0, []⟩ (.slice none 0 0) _ := Nod.made (w.alloc (.cells #[.string h, .string t] 70)) ⟨0, 0, ⟨#[]⟩, 0, 0, []⟩ (.slice none 0 0)
 have N1 : Nod (w.heap.size + 1) ⟨0, 0, ⟨#[]⟩, 0, 0, []⟩ (.slice none 0 0) W1 := by
  rw [hW1]
  simpa using N0
 have m0 : W1.cell? ⟨w.heap.size, 0, none⟩ = some _ := (cellO bx).trans rfl
 have m1 : W1.cell? ⟨w.heap.size, 1, none⟩ = some _ := (cellO bx).trans rfl
 have HB1 : Hid (Below w.heap.size w W1 ∧ W1.heap.size = w.heap.size + 2 ∧ W1.heap[w.heap.size]? = some (.cells #[.string h, .string t] 70 (0, 0))) := ⟨hb1, hsz, bx⟩
 have HW := hidd hW1.symm
 have HX : Hid (expD (h, t) = liD [syD bRename, syD t, syD h]) := by show _ = _; unfold expD; rw [if_neg hq]
 have g1 : (h.toList == t.toList) = false := beqS_ne hq
 have SR : Hid (∀ W, Calls Tryz.prog 67 #[.string bRename] W fun e w' => e = .returned (dv (syD bRename) none 0) ∧ Below W.heap.size W w') := fun W => symbol67 bRename W (by decide)
 have ST : Hid (∀ W, Calls Tryz.prog 67 #[.string t] W fun e w' => e = .returned (dv (syD t) none 0) ∧ Below W.heap.size W w') := fun W => symbol67 t W (by omega)
 have SH : Hid (∀ W, Calls Tryz.prog 67 #[.string h] W fun e w' => e = .returned (dv (syD h) none 0) ∧ Below W.heap.size W w') := fun W => symbol67 h W (by omega)
 have ZZ : Hid ((syD bRename).name.size ≤ maxLen ∧ (syD t).name.size ≤ maxLen ∧ (syD h).name.size ≤ maxLen) := ⟨by decide, by show t.size ≤ maxLen; unfold maxLen; omega, by show h.size ≤ maxLen; unfold maxLen; omega⟩
 have KZ : Hid ((syD bRename).kids = [] ∧ (syD t).kids = [] ∧ (syD h).kids = []) := ⟨rfl, rfl, rfl⟩
 rw [HX.out]
 generalize syD bRename = dr at *
 generalize syD t = dt at *
 generalize syD h = dh at *
 have DR : Hid (∀ ok W, DE ok W dr none 0) := fun ok W => ⟨ZZ.out.1, by rw [KZ.out.1]; exact Nat.le_refl 0, 0, KZ.out.1⟩
 have DT : Hid (∀ ok W, DE ok W dt none 0) := fun ok W => ⟨ZZ.out.2.1, by rw [KZ.out.2.1]; exact Nat.le_refl 0, 0, KZ.out.2.1⟩
 have DH : Hid (∀ ok W, DE ok W dh none 0) := fun ok W => ⟨ZZ.out.2.2, by rw [KZ.out.2.2]; exact Nat.le_refl 0, 0, KZ.out.2.2⟩
 clear hW1 hb1 bx N0 hs ht hq hsz
 go_enter Tryz.func92, Tryz.ntmps92
 go_upto_region 1 with fail
 rw [HW.out]
 clear HW
 go_upto_region 3 with fail
 have NO_0 : Hid (Nod (w.heap.size + 1) ⟨0, 0, ⟨#[]⟩, 0, 0, []⟩ (.slice none 0 0) W1.drew) := N1.after (Below.drew (Below.refl _ _))
 clear N1 m0 m1
 refine wp_region_held_drew (S := fun u => Below w.heap.size w u ∧ w.heap.size + 2 ≤ u.heap.size ∧ u.heap[w.heap.size]? = some (.cells #[.string h, .string t] 70 (0, 0))) (by kernel_rfl) ⟨HB1.out.1.drew, Nat.le_of_eq HB1.out.2.1.symm, HB1.out.2.2⟩ (fun hS => ?_)
 refine tk 1 (.pointer (some ⟨w.heap.size, 1, none⟩)) rfl (Or.inl ⟨by rfl, fun u hu => by go_simp⟩) hS ?_
 simp only [Act.put, List.setIfInBounds_toArray, List.set_cons_zero, List.set_cons_succ]
 refine tk 2 (.string t) rfl (Or.inl ⟨by rfl, fun u hu => by (have z0 : u.cell? ⟨w.heap.size, 1, none⟩ = some (.string t) := (cellO hu.2.2).trans rfl; go_simp)⟩) hS ?_
 simp only [Act.put, List.setIfInBounds_toArray, List.set_cons_zero, List.set_cons_succ]
 refine tk 4 (.pointer (some ⟨w.heap.size, 0, none⟩)) rfl (Or.inl ⟨by rfl, fun u hu => by go_simp⟩) hS ?_
 simp only [Act.put, List.setIfInBounds_toArray, List.set_cons_zero, List.set_cons_succ]
 refine tk 5 (.string h) rfl (Or.inl ⟨by rfl, fun u hu => by (have z0 : u.cell? ⟨w.heap.size, 0, none⟩ = some (.string h) := (cellO hu.2.2).trans rfl; go_simp)⟩) hS ?_
 simp only [Act.put, List.setIfInBounds_toArray, List.set_cons_zero, List.set_cons_succ]
 refine rdy [0] (.cons rfl (fun K hK => ?_) .nil)
 go_simp
 refine Calls.mono (SR.out W1.drew) ?_
 rintro e U1 ⟨rfl, hb1⟩
 have NO_1 : Hid (Nod (w.heap.size + 1) ⟨0, 0, ⟨#[]⟩, 0, 0, []⟩ (.slice none 0 0) U1) := NO_0.out.after hb1
 have hS1 := And.intro (hS.1.trans (hb1.mono hS.1.size)) (And.intro (Nat.le_trans hS.2.1 hb1.size) ((hb1.block _ (Array.getElem?_eq_some_iff.1 hS.2.2).1).trans hS.2.2))
 clear hb1
 try unfold dv
 show K _ U1
 refine hK.out _ _ hS1 (fun hS => ?_)
 clear hK K
 refine rdy [3] (.cons rfl (fun K hK => ?_) .nil)
 go_simp
 refine Calls.mono (ST.out U1) ?_
 rintro e U2 ⟨rfl, hb2⟩
 have NO_2 : Hid (Nod (w.heap.size + 1) ⟨0, 0, ⟨#[]⟩, 0, 0, []⟩ (.slice none 0 0) U2) := NO_1.out.after hb2
 have hS2 := And.intro (hS.1.trans (hb2.mono hS.1.size)) (And.intro (Nat.le_trans hS.2.1 hb2.size) ((hb2.block _ (Array.getElem?_eq_some_iff.1 hS.2.2).1).trans hS.2.2))
 clear hb2
 try unfold dv
 show K _ U2
 refine hK.out _ _ hS2 (fun hS => ?_)
 clear hK K
 refine rdy [6] (.cons rfl (fun K hK => ?_) .nil)
 go_simp
 refine Calls.mono (SH.out U2) ?_
 rintro e U3 ⟨rfl, hb3⟩
 have NO_3 : Hid (Nod (w.heap.size + 1) ⟨0, 0, ⟨#[]⟩, 0, 0, []⟩ (.slice none 0 0) U3) := NO_2.out.after hb3
 have hS3 := And.intro (hS.1.trans (hb3.mono hS.1.size)) (And.intro (Nat.le_trans hS.2.1 hb3.size) ((hb3.block _ (Array.getElem?_eq_some_iff.1 hS.2.2).1).trans hS.2.2))
 clear hb3
 try unfold dv
 show K _ U3
 refine hK.out _ _ hS3 (fun hS => ?_)
 clear hK K
 refine rdy [7] (.cons rfl (fun K hK => ?_) .nil)
 go_simp
 have hb4 : Below U3.heap.size U3 (U3.alloc (.cells #[.int .i64 dt.kind, .int .i64 dt.n, .string dt.name, .int .i64 dt.stamp, .int .i64 dt.lib, .slice none dt.kids.length 0, .int .i64 dh.kind, .int .i64 dh.n, .string dh.name, .int .i64 dh.stamp, .int .i64 dh.lib, .slice none dh.kids.length 0] 26)) := (Below.refl _ _).alloc (Nat.le_refl _) _
 obtain ⟨sf4, hsf4⟩ := row_lie (fun _ => False) U3 [(dt, none, 0), (dh, none, 0)] (by simp) (by
  intro e he
  simp at he
  rcases he with rfl | rfl
  ·exact DT.out _ _
  ·exact DH.out _ _)
 have RS_4 : Hid (∃ f, Dc (fun b => b = U3.heap.size ∧ b < (U3.alloc (.cells #[.int .i64 dt.kind, .int .i64 dt.n, .string dt.name, .int .i64 dt.stamp, .int .i64 dt.lib, .slice none dt.kids.length 0, .int .i64 dh.kind, .int .i64 dh.n, .string dh.name, .int .i64 dh.stamp, .int .i64 dh.lib, .slice none dh.kids.length 0] 26)).heap.size) (U3.alloc (.cells #[.int .i64 dt.kind, .int .i64 dt.n, .string dt.name, .int .i64 dt.stamp, .int .i64 dt.lib, .slice none dt.kids.length 0, .int .i64 dh.kind, .int .i64 dh.n, .string dh.name, .int .i64 dh.stamp, .int .i64 dh.lib, .slice none dh.kids.length 0] 26)) f (some ⟨U3.heap.size, 0, none⟩) [dt, dh]) := ⟨sf4, Dc.stay (fun _ _ => rfl) (fun k hk => ⟨hk.1.resolve_left id, by have := hk.2; simpa using this⟩) _ _ _ hsf4⟩
 have RSB : Hid (w.heap.size + 2 ≤ U3.heap.size) := hS.2.1
 have hS4 := And.intro (hS.1.trans (hb4.mono hS.1.size)) (And.intro (Nat.le_trans hS.2.1 hb4.size) ((hb4.block _ (Array.getElem?_eq_some_iff.1 hS.2.2).1).trans hS.2.2))
 clear hsf4
 change K _ (U3.alloc (.cells #[.int .i64 dt.kind, .int .i64 dt.n, .string dt.name, .int .i64 dt.stamp, .int .i64 dt.lib, .slice none dt.kids.length 0, .int .i64 dh.kind, .int .i64 dh.n, .string dh.name, .int .i64 dh.stamp, .int .i64 dh.lib, .slice none dh.kids.length 0] 26))
 generalize U3.alloc (.cells #[.int .i64 dt.kind, .int .i64 dt.n, .string dt.name, .int .i64 dt.stamp, .int .i64 dt.lib, .slice none dt.kids.length 0, .int .i64 dh.kind, .int .i64 dh.n, .string dh.name, .int .i64 dh.stamp, .int .i64 dh.lib, .slice none dh.kids.length 0] 26) = U4 at hb4 RS_4 hS4 ⊢
 have NO_4 : Hid (Nod (w.heap.size + 1) ⟨0, 0, ⟨#[]⟩, 0, 0, []⟩ (.slice none 0 0) U4) := NO_3.out.after hb4
 clear hb4
 refine hK.out _ _ hS4 (fun hS => ?_)
 clear hK K
 refine rdy [8] (.cons rfl (fun K hK => ?_) .nil)
 go_simp
 obtain ⟨sf, hsf⟩ := RS_4.out
 have QC := list66 (fun b => w.heap.size + 2 ≤ b) dr none 0 [dt, dh] (some ⟨U3.heap.size, 0, none⟩) 2 sf U4 (DR.out _ _) (Dc.stay (fun _ _ => rfl) (fun k hk => ⟨by have := RSB.out; have := hk.1; omega, hk.2⟩) _ _ _ hsf) (by simp)
 refine Calls.mono QC ?_
 clear QC hsf
 rintro e U5 ⟨hb5, va, vc, es, rfl, hes, hre⟩
 have RR : Hid (RowE (fun b => w.heap.size + 2 ≤ b) (w.heap.size + 2) (.slice va es.length vc) es U5 ∧ es.map (·.1) = [dr, dt, dh]) := ⟨(hre.to (fun k hk _ => hk.1)).low hS.2.1, hes⟩
 clear hre hes
 have NO_5 : Hid (Nod (w.heap.size + 1) ⟨0, 0, ⟨#[]⟩, 0, 0, []⟩ (.slice none 0 0) U5) := NO_4.out.after hb5
 have RS_5 : Hid (∃ f, Dc (fun b => b = U3.heap.size ∧ b < U5.heap.size) U5 f (some ⟨U3.heap.size, 0, none⟩) [dt, dh]) := (by obtain ⟨f, hf⟩ := RS_4.out; exact ⟨f, Dc.stay (fun k hk => hb5.block k hk.2) (fun k hk => ⟨hk.1, Nat.lt_of_lt_of_le hk.2 hb5.size⟩) _ _ _ hf⟩)
 obtain ⟨m, hm⟩ : ∃ m, m = es.length := ⟨_, rfl⟩
 rw [← hm] at RR ⊢
 have HM := hidd hm
 clear hm
 have hS5 := And.intro (hS.1.trans (hb5.mono hS.1.size)) (And.intro (Nat.le_trans hS.2.1 hb5.size) ((hb5.block _ (Array.getElem?_eq_some_iff.1 hS.2.2).1).trans hS.2.2))
 clear hb5
 unfold dvK
 show K _ U5
 refine hK.out _ _ hS5 (fun hS => ?_)
 clear hK K
 refine rdy [9] (.cons rfl (fun K hK => ?_) .nil)
 obtain ⟨q, q0, q1, q2, q3, q4, q5, qz⟩ := NO_5.out
 simp only at q0 q1 q2 q3 q4 q5
 go_simp
 have hh := six_heap U5 (w.heap.size + 1) (.int .i64 4) (.int .i64 0) (.string ⟨#[]⟩) (.int .i64 0) (.int .i64 0) (.slice va m vc)
 refine hK.out _ _ ⟨below_sixN hS.1 (Nat.le_succ _) _ _ _ _ _ _, by rw [hh.2]; exact hS.2.1, (hh.1 _ (by omega)).trans hS.2.2⟩ (fun hS => ?_)
 clear hK K
 refine wpAnyH_done (by kernel_rfl) ?_ _
 go_wp2_with fail
 refine bodyPost_ret (ret92 (NO_5.out.store (liD [dr, dt, dh]) (.slice va m vc)) rfl) rfl ?_
 have hl : m = 3 := by rw [HM.out, TellR.len (ok := fun _ => True) (a := none) (c := 0) (w := w) RR.out.2]; rfl
 refine ⟨hS.1, va, vc, by rw [hl]; rfl, ?_⟩
 have hr := RR.out.1
 exact rowE_tell ((hr.keep (((((((Keep.refl (w.heap.size + 1) U5).setCell ⟨w.heap.size + 1, 0, none⟩ rfl _).setCell ⟨w.heap.size + 1, 1, none⟩ rfl _).setCell ⟨w.heap.size + 1, 2, none⟩ rfl _).setCell ⟨w.heap.size + 1, 3, none⟩ rfl _).setCell ⟨w.heap.size + 1, 4, none⟩ rfl _).setCell ⟨w.heap.size + 1, 5, none⟩ rfl _) (fun e => by have h3 := (hr.own.lt _ e).1; omega) (fun k hk => by omega)).low (B' := w.heap.size) (by omega)) HM.out RR.out.2 (Nat.le_refl _) (fun k hk => by omega) (by rw [← HM.out]; omega)
theorem shownExport92 (h t : ByteArray) (w : World) (hs : h.size ≤ 1000) (ht : t.size ≤ 1000) : Calls Tryz.prog 92 #[.agg #[.string h, .string t]] w (TellF (expD (h, t)) w) := by
 by_cases hq : h = t
 ·exact shownExport92_same h t w hs hq
 ·exact shownExport92_else h t w hs ht hq
end
end Go.Proofs.YtonafbennobgdaaGreatDoor
