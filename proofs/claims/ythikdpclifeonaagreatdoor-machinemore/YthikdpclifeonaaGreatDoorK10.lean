/- text.Bare. -/
import Derived.Test.YthikdpclifeonaaGreatDoorK09
namespace Go.Proofs.YthikdpclifeonaaGreatDoor
set_option linter.unusedVariables false
set_option linter.unusedSimpArgs false
open Go.RowKit

/-- append(s, x...), s a row of one's own: the values one by one. -/
theorem step_append_where {ops : Array Oper} {o : Oper} {a : Act} {w : World} {K : Act → World → Prop} {Q : Exit → Act → World → Prop} {E : Prop} (hgd : o.guard = none) (s x : Operand) (t : TypeId)
    (ho : o.op = .call { callee := .builtin .append, args := #[s, x], argTypes := #[t, t] })
    (base : Nat) (e : TypeId) (i : TypeInfo) (z : Value) (size bytes : Nat) (ht : Tryz.prog.underlying t = some (.slice e)) (hi : Tryz.prog.info? e = some i) (hz : i.zero = some z)
    (hsize : i.size = size) (hby : i.bytes = bytes) (hzs : z.cells.size = size) (hsz : 0 < size)
    (v : Value) (n : Nat) (xs : List Value) (hs : a.eval s = v) (hown : w.ownsRow base e size v n xs)
    (ad : Addr) (m c : Nat) (news : List Value) (hx : a.eval x = .slice (some ad) m c) (hl : news.length = m * size) (hnews : ∀ j u, news[j]? = some u → w.cell? (ad.add j) = some u) (h1 : ∀ u ∈ news, u.oneCell' = true) (hm0 : 0 < m)
    (h63 : n + m ≤ maxLen) (hbytes : (n + m) * bytes ≤ 140737488355328) (hbase : base ≤ w.heap.size)
    (h : ∀ v' w', w'.ownsRow base e size v' (n + m) (xs ++ news) → w.grownBy w' v.ownBlock → (v'.ownBlock = v.ownBlock ∨ v'.ownBlock = some w.heap.size) → K (a.put o.dst v') w') :
    if Region.wanted o (yielded ops a.tmps) = true then Oper.wp Tryz.prog o a w K Q else E := by
  have hw : Region.wanted o (yielded ops a.tmps) = true := by simp [Region.wanted, hgd]
  rw [if_pos hw]
  obtain ⟨v', w', hr, h2, h3, h4⟩ := run_append_where (P := Tryz.prog) w base t o.type e i z size bytes ht hi hz hsize hby hzs hsz v n xs hown ad m c news hl hnews h1 hm0 h63 hbytes hbase
  unfold Oper.wp execOp
  simp only [ho, resolve, invoke, builtin, Sem.run_bind, Sem.run_pure, Result.andThen_ok, List.map_toArray, List.map_cons, List.map_nil, hs, hx, hr]
  exact h v' w' h2 h3 h4

def Dn (w : World) (f : Nat) (a : Option Addr) (ds : List Dat) : Prop := Dc (fun b => b < w.heap.size) w f a ds
theorem Dn.lift {w w' : World} {f : Nat} {a : Option Addr} {ds : List Dat} (h : Dn w f a ds) (hb : Below w.heap.size w w') : Dn w' f a ds := Dc.stay (fun k hk => hb.block k hk) (fun k hk => Nat.lt_of_lt_of_le hk hb.size) _ _ _ h
theorem Dn.at {w : World} {f : Nat} {a : Option Addr} {ds : List Dat} (h : Dn w f a ds) (h0 : ds ≠ []) : ∃ f' b o, f = f' + 1 ∧ a = some ⟨b, o, none⟩ ∧ b < w.heap.size ∧ ∀ (i : Nat) (d : Dat), ds[i]? = some d → ∃ a' cap,
      w.cell? ⟨b, o + i * 6, none⟩ = some (.int .i64 d.kind) ∧ w.cell? ⟨b, o + i * 6 + 1, none⟩ = some (.int .i64 d.n) ∧ w.cell? ⟨b, o + i * 6 + 2, none⟩ = some (.string d.name) ∧
      w.cell? ⟨b, o + i * 6 + 3, none⟩ = some (.int .i64 d.stamp) ∧ w.cell? ⟨b, o + i * 6 + 4, none⟩ = some (.int .i64 d.lib) ∧ w.cell? ⟨b, o + i * 6 + 5, none⟩ = some (.slice a' d.kids.length cap) ∧
      d.name.size ≤ maxLen ∧ d.kids.length ≤ cap ∧ Dn w f' a' d.kids := by
  cases f with
  | zero => exact absurd h h0
  | succ f =>
    rcases h.2 with h | ⟨b, o, ha, hb, h⟩
    · exact absurd h h0
    · exact ⟨f, b, o, rfl, ha, hb, h⟩
theorem Clone_any (s : ByteArray) (w : World) (hlim : s.size ≤ 281474976710656) :
    Calls Tryz.prog 25 #[.string s] w fun e w' => e = .returned (.string s) ∧ Below w.heap.size w w' := by
  go_enter Tryz.func25, Tryz.ntmps25
  go_wp2_with fail
  refine (Tryz.stringslite_Clone s w hlim).mono ?_
  rintro e w1 ⟨rfl, hb⟩
  go_wp2_with fail
  go_ret
  exact ⟨rfl, hb⟩
mutual
/-- No symbol is too long to be copied, no list too long to be made. -/
def smQ : Dat → Prop
  | ⟨k, n, nm, st, lb, ks⟩ => (k = 3 → nm.size ≤ 281474976710656) ∧ (k = 4 → ks.length ≤ 2000 ∧ smQL ks)
def smQL : List Dat → Prop
  | [] => True
  | d :: r => smQ d ∧ smQL r
end
theorem smQL_mem : ∀ (l : List Dat), smQL l → ∀ d ∈ l, smQ d
  | [], _, _, h => by cases h
  | x :: r, h, d, hd => by
    rw [smQL] at h
    rcases List.mem_cons.1 hd with rfl | hd
    · exact h.1
    · exact smQL_mem r h.2 d hd
theorem bareQL_map : ∀ (l : List Dat), bareQL l = l.map bareQ
  | [] => by rw [bareQL]; rfl
  | d :: r => by rw [bareQL, bareQL_map r]; rfl
theorem bareQ_name (d : Dat) (h : d.name.size ≤ maxLen) : (bareQ d).name.size ≤ maxLen := by
  obtain ⟨k, n, nm, st, lb, ks⟩ := d
  rw [bareQ]
  simp only at h ⊢
  split
  · exact h
  · exact Nat.zero_le _
/-- What is told of a datum that was made. -/
def ToldB (d : Dat) (w : World) (e : Ending) (w' : World) : Prop :=
  Below w.heap.size w w' ∧ ∃ a cap f, e = .returned (dv d a cap) ∧ d.kids.length ≤ cap ∧ Dc (New w w') w' f a d.kids
theorem RowC.slice {B : Nat} {v : Value} {es : List (Dat × Option Addr × Nat)} {w : World} (h : RowC B v es w) : ∃ a n cap, v = .slice a n cap := by
  rcases h.own.2 with ⟨rfl, h0⟩ | ⟨g, cap, cur, rfl, _⟩
  · exact ⟨none, 0, 0, rfl⟩
  · exact ⟨some ⟨g, 0, none⟩, _, cap, rfl⟩
/-- What a round of Bare has. -/
structure BS (w : World) (v : Value) (es : List (Dat × Option Addr × Nat)) (W : World) : Prop where
  old : Below w.heap.size w W
  res : Nod (w.heap.size + 1) zeroD (.slice none 0 0) W
  out : Nod (w.heap.size + 1 + 1) ⟨4, 0, ⟨#[]⟩, 0, 0, []⟩ v W
  row : RowC (w.heap.size + 3) v es W
theorem BS.below {w W W' : World} {v : Value} {es : List (Dat × Option Addr × Nat)} (h : BS w v es W) (hb : Below W.heap.size W W') : BS w v es W' :=
  ⟨h.old.trans (hb.mono h.old.size), h.res.after hb, h.out.after hb, h.row.below hb⟩
theorem ret46 {ts : Array Value} {W : World} {R : Nat} {d : Dat} {v : Value} (h : Nod R d v W) (h2 : ts[2]? = some (.pointer (some ⟨R, 0, none⟩))) :
    (results Tryz.f99 ts).run Tryz.prog W = .ok (.agg #[.int .i64 d.kind, .int .i64 d.n, .string d.name, .int .i64 d.stamp, .int .i64 d.lib, v]) W := by
  obtain ⟨q, q0, q1, q2, q3, q4, q5, qz⟩ := h
  simp [results, Tryz.results99, go_sem, h2, q0, q1, q2, q3, q4, q5]
/-- The three boxes that Bare begins with. -/
def bareW (w : World) (k n : Int) (nm : ByteArray) (st lb : Int) (sl : Value) : World :=
  ((w.alloc (.cells #[.int .i64 k, .int .i64 n, .string nm, .int .i64 st, .int .i64 lb, sl] 82)).alloc (.cells #[.int .i64 0, .int .i64 0, .string ⟨#[]⟩, .int .i64 0, .int .i64 0, .slice none 0 0] 82)).alloc (.cells #[.int .i64 k, .int .i64 0, .string ⟨#[]⟩, .int .i64 0, .int .i64 0, .slice none 0 0] 82)
theorem bareW_size (w : World) (k n : Int) (nm : ByteArray) (st lb : Int) (sl : Value) : (bareW w k n nm st lb sl).heap.size = w.heap.size + 3 := by unfold bareW; simp
theorem bareW_old (w : World) (k n : Int) (nm : ByteArray) (st lb : Int) (sl : Value) : Below w.heap.size w (bareW w k n nm st lb sl) :=
  (((Below.refl _ _).alloc (Nat.le_refl _) _).alloc (by simp) _).alloc (by simp; omega) _
theorem bareW_in (w : World) (k n : Int) (nm : ByteArray) (st lb : Int) (sl : Value) : Nod w.heap.size ⟨k, n, nm, st, lb, []⟩ sl (bareW w k n nm st lb sl) := by
  have h := Nod.made w ⟨k, n, nm, st, lb, []⟩ sl
  exact (h.alloc _).alloc _
theorem bareW_res (w : World) (k n : Int) (nm : ByteArray) (st lb : Int) (sl : Value) : Nod (w.heap.size + 1) zeroD (.slice none 0 0) (bareW w k n nm st lb sl) := by
  have h := Nod.made (w.alloc (.cells #[.int .i64 k, .int .i64 n, .string nm, .int .i64 st, .int .i64 lb, sl] 82)) zeroD (.slice none 0 0)
  have hs : (w.alloc (.cells #[.int .i64 k, .int .i64 n, .string nm, .int .i64 st, .int .i64 lb, sl] 82)).heap.size = w.heap.size + 1 := by simp
  rw [hs] at h
  exact h.alloc _
theorem bareW_out (w : World) (k n : Int) (nm : ByteArray) (st lb : Int) (sl : Value) : Nod (w.heap.size + 1 + 1) ⟨k, 0, ⟨#[]⟩, 0, 0, []⟩ (.slice none 0 0) (bareW w k n nm st lb sl) := by
  have h := Nod.made ((w.alloc (.cells #[.int .i64 k, .int .i64 n, .string nm, .int .i64 st, .int .i64 lb, sl] 82)).alloc (.cells #[.int .i64 0, .int .i64 0, .string ⟨#[]⟩, .int .i64 0, .int .i64 0, .slice none 0 0] 82)) ⟨k, 0, ⟨#[]⟩, 0, 0, []⟩ (.slice none 0 0)
  have hs : ((w.alloc (.cells #[.int .i64 k, .int .i64 n, .string nm, .int .i64 st, .int .i64 lb, sl] 82)).alloc (.cells #[.int .i64 0, .int .i64 0, .string ⟨#[]⟩, .int .i64 0, .int .i64 0, .slice none 0 0] 82)).heap.size = w.heap.size + 1 + 1 := by simp
  rw [hs] at h
  exact h
theorem Nod.set1 {N : Nat} {d : Dat} {v : Value} {w : World} (h : Nod N d v w) (x : Int) : Nod N { d with n := x } v (w.setCell ⟨N, 1, none⟩ (.int .i64 x)) := by
  obtain ⟨q, q0, q1, q2, q3, q4, q5, qz⟩ := h
  exact ⟨by simpa [World.setCell] using q, by go_simp, by go_simp, by go_simp, by go_simp, by go_simp, by go_simp, fun j => by rw [World.frozen?_setCell]; exact qz j⟩
theorem Nod.set2 {N : Nat} {d : Dat} {v : Value} {w : World} (h : Nod N d v w) (x : ByteArray) : Nod N { d with name := x } v (w.setCell ⟨N, 2, none⟩ (.string x)) := by
  obtain ⟨q, q0, q1, q2, q3, q4, q5, qz⟩ := h
  exact ⟨by simpa [World.setCell] using q, by go_simp, by go_simp, by go_simp, by go_simp, by go_simp, by go_simp, fun j => by rw [World.frozen?_setCell]; exact qz j⟩
/-- The end: what was made is loaded and stored as the answer. -/
theorem bare_end {w W : World} {k n : Int} {nm : ByteArray} {st lb : Int} {ks : List Dat} {f : Nat} {a : Option Addr} {cap len : Nat} (hlen : len = ks.length) (hW : Below w.heap.size w W) (hr : Nod (w.heap.size + 1) zeroD (.slice none 0 0) W) (hd : Dc (fun b => w.heap.size + 3 ≤ b ∧ b < W.heap.size) W f a ks) (hc : ks.length ≤ cap) :
    Nod (w.heap.size + 1) ⟨k, n, nm, st, lb, ks⟩ (.slice a len cap) ((((((W.setCell ⟨w.heap.size + 1, 0, none⟩ (.int .i64 k)).setCell ⟨w.heap.size + 1, 1, none⟩ (.int .i64 n)).setCell ⟨w.heap.size + 1, 2, none⟩ (.string nm)).setCell ⟨w.heap.size + 1, 3, none⟩ (.int .i64 st)).setCell ⟨w.heap.size + 1, 4, none⟩ (.int .i64 lb)).setCell ⟨w.heap.size + 1, 5, none⟩ (.slice a len cap)) ∧ ToldB ⟨k, n, nm, st, lb, ks⟩ w (.returned (.agg #[.int .i64 k, .int .i64 n, .string nm, .int .i64 st, .int .i64 lb, .slice a len cap])) ((((((W.setCell ⟨w.heap.size + 1, 0, none⟩ (.int .i64 k)).setCell ⟨w.heap.size + 1, 1, none⟩ (.int .i64 n)).setCell ⟨w.heap.size + 1, 2, none⟩ (.string nm)).setCell ⟨w.heap.size + 1, 3, none⟩ (.int .i64 st)).setCell ⟨w.heap.size + 1, 4, none⟩ (.int .i64 lb)).setCell ⟨w.heap.size + 1, 5, none⟩ (.slice a len cap)) := by
  have hh := six_heap W (w.heap.size + 1) (.int .i64 k) (.int .i64 n) (.string nm) (.int .i64 st) (.int .i64 lb) (.slice a len cap)
  refine ⟨hr.store ⟨k, n, nm, st, lb, ks⟩ (.slice a len cap), below_sixN hW (by omega) _ _ _ _ _ _, a, cap, f, by rw [hlen]; rfl, hc, ?_⟩
  refine Dc.stay (fun b hb => hh.1 b (by have := hb.1; omega)) (fun b hb => ⟨by have := hb.1; omega, ?_⟩) _ _ _ hd
  rw [hh.2]
  exact hb.2

set_option maxRecDepth 100000 in
set_option maxHeartbeats 1600000 in
theorem Bare_list (f : Nat) (d : Dat) (a : Option Addr) (cap : Nat) (w : World) (h4 : d.kind = 4) (hl : Dn w (f + 1) a d.kids) (hf : smQ d)
    (ih : ∀ (d' : Dat), d' ∈ d.kids → ∀ (a : Option Addr) (cap : Nat) (w : World), Dn w f a d'.kids → smQ d' → Calls Tryz.prog 99 #[dv d' a cap] w (ToldB (bareQ d') w)) :
    Calls Tryz.prog 99 #[dv d a cap] w (ToldB (bareQ d) w) := by
  obtain ⟨k, n, nm, st, lb, ks⟩ := d
  rw [smQ] at hf
  simp only at hl ih h4
  have HL := hidd hl
  have IH := hidd ih
  have FL := hidd hf
  clear hl ih hf
  have OLD := hidd (bareW_old w k n nm st lb (.slice a ks.length cap))
  have RES := hidd (bareW_res w k n nm st lb (.slice a ks.length cap))
  have OUT := hidd (bareW_out w k n nm st lb (.slice a ks.length cap))
  have INN := hidd (bareW_in w k n nm st lb (.slice a ks.length cap))
  have hsz := bareW_size w k n nm st lb (.slice a ks.length cap)
  unfold dv
  · subst h4
    have hlen : ks.length ≤ 2000 := (FL.out.2 rfl).1
    rw [show bareQ ⟨4, n, nm, st, lb, ks⟩ = ⟨4, 0, ⟨#[]⟩, 0, 0, ks.map bareQ⟩ by rw [bareQ, bareQL_map]; simp]
    have S0 : Hid (BS w (.slice none 0 0) [] (bareW w 4 n nm st lb (.slice a ks.length cap))) := ⟨OLD.out, RES.out, OUT.out, RowC.nil _ _⟩
    clear OLD RES OUT INN
    go_enter Tryz.func99, Tryz.ntmps99
    go_wp2_with fail
    go_loopw [28] (fun i wr => ∃ (j : Nat) (v : Value) (es : List (Dat × Option Addr × Nat)), j ≤ ks.length ∧ i = .int .i64 j ∧ es.map (·.1) = (ks.take j).map bareQ ∧ Hid (BS w v es wr)) (fun i _ => ks.length - (intOf i).toNat)
    case atStart => exact ⟨0, _, [], Nat.zero_le _, rfl, rfl, S0.out⟩
    case round =>
      clear S0
      obtain ⟨j, v, es, hj, rfl, hsm, HR⟩ := hrel
      have HSM := hidd hsm
      have HES : Hid (es.length = j) := by
        show _ = _
        have := congrArg List.length hsm
        simp at this
        omega
      clear hsm
      have lo := HR.out.out.lt
      by_cases hlt : j < ks.length
      · obtain ⟨kid, hkid⟩ : ∃ kid, ks[j]? = some kid := ⟨ks[j], List.getElem?_eq_getElem hlt⟩
        have hne : ks ≠ [] := by intro e; rw [e] at hlt; simp at hlt
        obtain ⟨g', b, o, hg, ha, hbB, hall⟩ := HL.out.at hne
        subst ha
        obtain ⟨a', cap', k0, k1, k2, k3, k4, k5, hkn, hkc, hkk⟩ := hall j kid hkid
        have hg' : g' = f := by omega
        subst hg'
        have hc : ∀ q, wr.cell? ⟨b, q, none⟩ = w.cell? ⟨b, q, none⟩ := fun q => HR.out.old.cell (p := ⟨b, q, none⟩) hbB
        have j0 := (hc _).trans k0
        have j1 := (hc _).trans k1
        have j2 := (hc _).trans k2
        have j3 := (hc _).trans k3
        have j4 := (hc _).trans k4
        have j5 := (hc _).trans k5
        have CA : Hid (∀ W, Below w.heap.size w W → Calls Tryz.prog 99 #[dv kid a' cap'] W (ToldB (bareQ kid) W)) := fun W hb => IH.out kid (List.mem_of_getElem? hkid) a' cap' W (Dn.lift hkk hb) (smQL_mem _ (FL.out.2 (by trivial)).2 _ (List.mem_of_getElem? hkid))
        have TK : Hid ((ks.take (j + 1)).map bareQ = (ks.take j).map bareQ ++ [bareQ kid]) := by
          show _ = _
          rw [List.take_add_one, hkid]
          simp
        have HN : Hid ((bareQ kid).name.size ≤ maxLen) := bareQ_name kid hkn
        unfold dv at CA
        clear k0 k1 k2 k3 k4 k5 hall hkk hkid hc hg hkn hkc IH FL HL
        go_upto_region 12 with fail
        clear j0 j1 j2 j3 j4 j5
        have BS_0 : Hid (BS w v es (wr.alloc (.cells #[.int .i64 kid.kind, .int .i64 kid.n, .string kid.name, .int .i64 kid.stamp, .int .i64 kid.lib, .slice a' kid.kids.length cap'] 82)).drew) := HR.out.below (Below.drew ((Below.refl _ _).alloc (Nat.le_refl _) _))
        generalize bareQ kid = rk at TK HN CA
        refine wp_region_held_drew (S := fun u => u.heap[wr.heap.size]? = some (.cells #[.int .i64 kid.kind, .int .i64 kid.n, .string kid.name, .int .i64 kid.stamp, .int .i64 kid.lib, .slice a' kid.kids.length cap'] 82 (0, 0))) (by kernel_rfl) (World.alloc_heap_new wr (.cells #[.int .i64 kid.kind, .int .i64 kid.n, .string kid.name, .int .i64 kid.stamp, .int .i64 kid.lib, .slice a' kid.kids.length cap'] 82)) (fun hS => ?_)
        refine wpAnyH_take (i := 0) (oi := { dst := some 32, op := Op.fieldAddr 82 (Operand.tmp 3) 5, type := 0, pos := _, after := _, guard := none }) (v := .pointer (some ⟨w.heap.size + 1 + 1, 5, none⟩)) rfl (by kernel_rfl) (by kernel_rfl) (by kernel_rfl) (fun _ _ _ h => h) (Or.inl ⟨by rfl, fun u hu => by go_simp⟩) hS ?_
        simp only [Act.put, List.setIfInBounds_toArray, List.set_cons_zero, List.set_cons_succ]
        refine wpAnyH_take (i := 2) (oi := { dst := some 34, op := Op.load 82 (Operand.tmp 5), type := 82, pos := _, after := _, guard := none }) (v := .agg #[.int .i64 kid.kind, .int .i64 kid.n, .string kid.name, .int .i64 kid.stamp, .int .i64 kid.lib, .slice a' kid.kids.length cap']) rfl (by kernel_rfl) (by kernel_rfl) (by kernel_rfl) (fun _ _ _ h => h) (Or.inl ⟨by rfl, fun u hu => by (have z : ∀ q, u.cell? ⟨wr.heap.size, q, none⟩ = #[.int .i64 kid.kind, .int .i64 kid.n, .string kid.name, .int .i64 kid.stamp, .int .i64 kid.lib, .slice a' kid.kids.length cap'][q]? := (fun q => by simp [World.cell?, show u.heap[wr.heap.size]? = _ from hu]); have z0 := z 0; have z1 := z 1; have z2 := z 2; have z3 := z 3; have z4 := z 4; have z5 := z 5; simp at z0 z1 z2 z3 z4 z5; go_simp)⟩) hS ?_
        simp only [Act.put, List.setIfInBounds_toArray, List.set_cons_zero, List.set_cons_succ]
        refine wpAnyH_ready (rs := [1, 3]) (by kernel_rfl) (by simp) (AllReadyH.cons (o := { dst := some 33, op := Op.load 80 (Operand.tmp 32), type := 80, pos := _, after := _, guard := none }) rfl (fun K hK => ?_) (AllReadyH.cons (o := { dst := some 35, op := Op.call { callee := Callee.value (Operand.func 99), args := #[Operand.tmp 34], argTypes := #[82] }, type := 82, pos := _, after := _, guard := none }) rfl (fun K hK => ?_) AllReadyH.nil))
        · have zo := BS_0.out.out.q5
          go_simp
          clear zo
          refine hK.out _ _ hS (fun hS => ?_)
          clear hK K
          refine wpAnyH_ready (rs := [3]) (by kernel_rfl) (by simp) (AllReadyH.cons (o := { dst := some 35, op := Op.call { callee := Callee.value (Operand.func 99), args := #[Operand.tmp 34], argTypes := #[82] }, type := 82, pos := _, after := _, guard := none }) rfl (fun K hK => ?_) AllReadyH.nil)
          go_simp
          refine (CA.out (wr.alloc (.cells #[.int .i64 kid.kind, .int .i64 kid.n, .string kid.name, .int .i64 kid.stamp, .int .i64 kid.lib, .slice a' kid.kids.length cap'] 82)).drew BS_0.out.old).mono ?_
          rintro e w2 ⟨hb1, a2, cap2, f2, rfl, hcap2, hdc2⟩
          have BS_1 : Hid (BS w v es (w2)) := BS_0.out.below hb1
          have hs2 : wr.heap.size + 1 ≤ w2.heap.size := by have := hb1.size; simpa [World.drew] using this
          have HD2 : Hid (rk.kids.length ≤ cap2 ∧ Dc (New wr w2) w2 f2 a2 rk.kids) := ⟨hcap2, Dc.stay (fun _ _ => rfl) (fun k hk => ⟨by have := hk.1; simp [World.drew] at this; omega, hk.2⟩) _ _ _ hdc2⟩
          have hS1 : w2.heap[wr.heap.size]? = some (.cells #[.int .i64 kid.kind, .int .i64 kid.n, .string kid.name, .int .i64 kid.stamp, .int .i64 kid.lib, .slice a' kid.kids.length cap'] 82 (0, 0)) := (hb1.block _ (Array.getElem?_eq_some_iff.1 hS).1).trans hS
          clear hb1 hcap2 hdc2
          unfold dv
          simp only
          show K _ w2
          refine hK.out _ _ hS1 (fun hS => ?_)
          clear hK K
          refine wpAnyH_ready (rs := [4]) (by kernel_rfl) (by simp) (AllReadyH.cons (o := { dst := some 36, op := Op.buildSlice 80 1 #[(0, Operand.tmp 35)], type := 80, pos := _, after := _, guard := none }) rfl (fun K hK => ?_) AllReadyH.nil)
          go_simp
          have hb2 : Below w2.heap.size w2 (w2.alloc (.cells #[.int .i64 rk.kind, .int .i64 rk.n, .string rk.name, .int .i64 rk.stamp, .int .i64 rk.lib, .slice a2 rk.kids.length cap2] 82)) := (Below.refl _ _).alloc (Nat.le_refl _) _
          have hS2 : (w2.alloc (.cells #[.int .i64 rk.kind, .int .i64 rk.n, .string rk.name, .int .i64 rk.stamp, .int .i64 rk.lib, .slice a2 rk.kids.length cap2] 82)).heap[wr.heap.size]? = some (.cells #[.int .i64 kid.kind, .int .i64 kid.n, .string kid.name, .int .i64 kid.stamp, .int .i64 kid.lib, .slice a' kid.kids.length cap'] 82 (0, 0)) := (hb2.block _ (Array.getElem?_eq_some_iff.1 hS).1).trans hS
          change K _ (w2.alloc (.cells #[.int .i64 rk.kind, .int .i64 rk.n, .string rk.name, .int .i64 rk.stamp, .int .i64 rk.lib, .slice a2 rk.kids.length cap2] 82))
          refine hK.out _ _ hS2 (fun hS => ?_)
          clear hK K
          clear hb2
          refine wpAnyH_ready (rs := [5]) (by kernel_rfl) (by simp) (AllReadyH.cons (o := { dst := some 37, op := Op.call { callee := Callee.builtin Builtin.append, args := #[Operand.tmp 33, Operand.tmp 36], argTypes := #[80, 80] }, type := 80, pos := _, after := _, guard := none }) rfl (fun K hK => ?_) AllReadyH.nil)
          obtain ⟨i0, hinf, hz0, hz1, hz2⟩ := info_parts infoDat
          refine step_append_where rfl (.tmp 33) (.tmp 36) 80 rfl (w.heap.size + 3) 82 i0 _ 6 72 Tryz.underlying80 hinf hz0 hz1 hz2 rfl (by decide) v es.length (flat es) rfl (by exact BS_1.out.row.own.alloc _) ⟨w2.heap.size, 0, none⟩ 1 1 [.int .i64 rk.kind, .int .i64 rk.n, .string rk.name, .int .i64 rk.stamp, .int .i64 rk.lib, .slice a2 rk.kids.length cap2] rfl rfl ?_ ?_ (by decide) ?_ ?_ ?_ ?_
          · intro q u hq
            have hcell := World.cell?_alloc_mark w2 #[.int .i64 rk.kind, .int .i64 rk.n, .string rk.name, .int .i64 rk.stamp, .int .i64 rk.lib, .slice a2 rk.kids.length cap2] 82 (0, 0) q
            have hadd := addr_add w2.heap.size q
            rw [hadd, hcell]
            simpa using hq
          · intro u hu
            simp at hu
            rcases hu with rfl | rfl | rfl | rfl | rfl | rfl <;> rfl
          · have := HES.out; unfold maxLen; omega
          · have := HES.out; omega
          · simp; omega
          intro v' w4 hown4 hg4 hw4
          have HROW : Hid (RowC (w.heap.size + 3) v' (es ++ [(rk, a2, cap2)]) w4) := RowC.push (f := f2) (wr := wr) (w := w2) _ BS_1.out.row (by omega) (fun k hk => (HR.out.row.own.lt k hk).2) HD2.out.2 HN.out HD2.out.1 hown4 hg4 (by simpa using hw4)
          have hrow : ∀ k, v.ownBlock = some k → w.heap.size + 3 ≤ k ∧ k < wr.heap.size := fun k hk => ⟨(BS_1.out.row.own.lt k hk).1, (HR.out.row.own.lt k hk).2⟩
          have H4 : Hid (Below w.heap.size w w4 ∧ Nod (w.heap.size + 1) zeroD (.slice none 0 0) w4 ∧ Nod (w.heap.size + 1 + 1) ⟨4, 0, ⟨#[]⟩, 0, 0, []⟩ v w4) := ⟨(BS_1.out.old.alloc (by omega) _).grown hg4 (by simp; omega) (fun k hk => by have := hrow k hk; omega), (BS_1.out.res.alloc _).grown hg4 (fun e => by have := hrow _ e.symm; omega), (BS_1.out.out.alloc _).grown hg4 (fun e => by have := hrow _ e.symm; omega)⟩
          have hS4 : w4.heap[wr.heap.size]? = some (.cells #[.int .i64 kid.kind, .int .i64 kid.n, .string kid.name, .int .i64 kid.stamp, .int .i64 kid.lib, .slice a' kid.kids.length cap'] 82 (0, 0)) := (hg4.block _ (by simp; omega) (fun e => by have := hrow _ e.symm; omega)).trans hS
          clear hown4 hg4 hw4 hrow HD2
          show K _ w4
          refine hK.out _ _ hS4 (fun hS => ?_)
          clear hK K
          refine wpAnyH_take (i := 6) (oi := { dst := some 38, op := Op.fieldAddr 82 (Operand.tmp 3) 5, type := 0, pos := _, after := _, guard := none }) (v := .pointer (some ⟨w.heap.size + 1 + 1, 5, none⟩)) rfl (by kernel_rfl) (by kernel_rfl) (by kernel_rfl) (fun _ _ _ h => h) (Or.inl ⟨by rfl, fun u hu => by go_simp⟩) hS ?_
          simp only [Act.put, List.setIfInBounds_toArray, List.set_cons_zero, List.set_cons_succ]
          refine wpAnyH_ready (rs := [7]) (by kernel_rfl) (by simp) (AllReadyH.cons (o := { dst := none, op := Op.store 80 (Operand.tmp 38) (Operand.tmp 37), type := 0, pos := _, after := _, guard := none }) rfl (fun K hK => ?_) AllReadyH.nil)
          obtain ⟨sa, sn, sc, hsv⟩ := HROW.out.slice
          subst hsv
          obtain ⟨n0, n1, n2, n3, n4, n5, n6, nz⟩ := H4.out.2.2
          go_simp
          clear n0 n1 n2 n3 n4 n5 n6 nz
          have hke : Keep (w.heap.size + 1 + 1) w4 (w4.setCell ⟨w.heap.size + 1 + 1, 5, none⟩ (.slice sa sn sc)) := (Keep.refl _ _).setCell _ rfl _
          have HO := hidd (H4.out.2.2.set5 (.slice sa sn sc))
          have H5 : Hid (BS w (.slice sa sn sc) (es ++ [(rk, a2, cap2)]) (w4.setCell ⟨w.heap.size + 1 + 1, 5, none⟩ (.slice sa sn sc))) := ⟨H4.out.1.setCell (p := ⟨w.heap.size + 1 + 1, 5, none⟩) (by show w.heap.size ≤ w.heap.size + 1 + 1; omega) _, H4.out.2.1.keep hke (by omega), HO.out, RowC.keep HROW.out hke (by omega)⟩
          have hS5 : (w4.setCell ⟨w.heap.size + 1 + 1, 5, none⟩ (.slice sa sn sc)).heap[wr.heap.size]? = some (.cells #[.int .i64 kid.kind, .int .i64 kid.n, .string kid.name, .int .i64 kid.stamp, .int .i64 kid.lib, .slice a' kid.kids.length cap'] 82 (0, 0)) := (hke.block _ (Array.getElem?_eq_some_iff.1 hS).1 (by simp; omega)).trans hS
          change K _ (w4.setCell ⟨w.heap.size + 1 + 1, 5, none⟩ (.slice sa sn sc))
          generalize w4.setCell ⟨w.heap.size + 1 + 1, 5, none⟩ (.slice sa sn sc) = w5 at H5 hS5 ⊢
          clear HO hke H4 HROW
          refine hK.out _ _ hS5 (fun hS => ?_)
          clear hK K
          refine wpAnyH_done (by kernel_rfl) ?_ _
          go_wp2_with fail
          go_roundw
          case rel => exact ⟨j + 1, _, _, by omega, by go_num, by rw [TK.out, List.map_append, HSM.out]; rfl, H5.out⟩
          case measure => simp [intOf]; omega
        · go_simp
          refine (CA.out (wr.alloc (.cells #[.int .i64 kid.kind, .int .i64 kid.n, .string kid.name, .int .i64 kid.stamp, .int .i64 kid.lib, .slice a' kid.kids.length cap'] 82)).drew BS_0.out.old).mono ?_
          rintro e w2 ⟨hb1, a2, cap2, f2, rfl, hcap2, hdc2⟩
          have BS_1 : Hid (BS w v es (w2)) := BS_0.out.below hb1
          have hs2 : wr.heap.size + 1 ≤ w2.heap.size := by have := hb1.size; simpa [World.drew] using this
          have HD2 : Hid (rk.kids.length ≤ cap2 ∧ Dc (New wr w2) w2 f2 a2 rk.kids) := ⟨hcap2, Dc.stay (fun _ _ => rfl) (fun k hk => ⟨by have := hk.1; simp [World.drew] at this; omega, hk.2⟩) _ _ _ hdc2⟩
          have hS1 : w2.heap[wr.heap.size]? = some (.cells #[.int .i64 kid.kind, .int .i64 kid.n, .string kid.name, .int .i64 kid.stamp, .int .i64 kid.lib, .slice a' kid.kids.length cap'] 82 (0, 0)) := (hb1.block _ (Array.getElem?_eq_some_iff.1 hS).1).trans hS
          clear hb1 hcap2 hdc2
          unfold dv
          simp only
          show K _ w2
          refine hK.out _ _ hS1 (fun hS => ?_)
          clear hK K
          refine wpAnyH_ready (rs := [1, 4]) (by kernel_rfl) (by simp) (AllReadyH.cons (o := { dst := some 33, op := Op.load 80 (Operand.tmp 32), type := 80, pos := _, after := _, guard := none }) rfl (fun K hK => ?_) (AllReadyH.cons (o := { dst := some 36, op := Op.buildSlice 80 1 #[(0, Operand.tmp 35)], type := 80, pos := _, after := _, guard := none }) rfl (fun K hK => ?_) AllReadyH.nil))
          · have zo := BS_1.out.out.q5
            go_simp
            clear zo
            refine hK.out _ _ hS (fun hS => ?_)
            clear hK K
            refine wpAnyH_ready (rs := [4]) (by kernel_rfl) (by simp) (AllReadyH.cons (o := { dst := some 36, op := Op.buildSlice 80 1 #[(0, Operand.tmp 35)], type := 80, pos := _, after := _, guard := none }) rfl (fun K hK => ?_) AllReadyH.nil)
            go_simp
            have hb2 : Below w2.heap.size w2 (w2.alloc (.cells #[.int .i64 rk.kind, .int .i64 rk.n, .string rk.name, .int .i64 rk.stamp, .int .i64 rk.lib, .slice a2 rk.kids.length cap2] 82)) := (Below.refl _ _).alloc (Nat.le_refl _) _
            have hS2 : (w2.alloc (.cells #[.int .i64 rk.kind, .int .i64 rk.n, .string rk.name, .int .i64 rk.stamp, .int .i64 rk.lib, .slice a2 rk.kids.length cap2] 82)).heap[wr.heap.size]? = some (.cells #[.int .i64 kid.kind, .int .i64 kid.n, .string kid.name, .int .i64 kid.stamp, .int .i64 kid.lib, .slice a' kid.kids.length cap'] 82 (0, 0)) := (hb2.block _ (Array.getElem?_eq_some_iff.1 hS).1).trans hS
            change K _ (w2.alloc (.cells #[.int .i64 rk.kind, .int .i64 rk.n, .string rk.name, .int .i64 rk.stamp, .int .i64 rk.lib, .slice a2 rk.kids.length cap2] 82))
            refine hK.out _ _ hS2 (fun hS => ?_)
            clear hK K
            clear hb2
            refine wpAnyH_ready (rs := [5]) (by kernel_rfl) (by simp) (AllReadyH.cons (o := { dst := some 37, op := Op.call { callee := Callee.builtin Builtin.append, args := #[Operand.tmp 33, Operand.tmp 36], argTypes := #[80, 80] }, type := 80, pos := _, after := _, guard := none }) rfl (fun K hK => ?_) AllReadyH.nil)
            obtain ⟨i0, hinf, hz0, hz1, hz2⟩ := info_parts infoDat
            refine step_append_where rfl (.tmp 33) (.tmp 36) 80 rfl (w.heap.size + 3) 82 i0 _ 6 72 Tryz.underlying80 hinf hz0 hz1 hz2 rfl (by decide) v es.length (flat es) rfl (by exact BS_1.out.row.own.alloc _) ⟨w2.heap.size, 0, none⟩ 1 1 [.int .i64 rk.kind, .int .i64 rk.n, .string rk.name, .int .i64 rk.stamp, .int .i64 rk.lib, .slice a2 rk.kids.length cap2] rfl rfl ?_ ?_ (by decide) ?_ ?_ ?_ ?_
            · intro q u hq
              have hcell := World.cell?_alloc_mark w2 #[.int .i64 rk.kind, .int .i64 rk.n, .string rk.name, .int .i64 rk.stamp, .int .i64 rk.lib, .slice a2 rk.kids.length cap2] 82 (0, 0) q
              have hadd := addr_add w2.heap.size q
              rw [hadd, hcell]
              simpa using hq
            · intro u hu
              simp at hu
              rcases hu with rfl | rfl | rfl | rfl | rfl | rfl <;> rfl
            · have := HES.out; unfold maxLen; omega
            · have := HES.out; omega
            · simp; omega
            intro v' w4 hown4 hg4 hw4
            have HROW : Hid (RowC (w.heap.size + 3) v' (es ++ [(rk, a2, cap2)]) w4) := RowC.push (f := f2) (wr := wr) (w := w2) _ BS_1.out.row (by omega) (fun k hk => (HR.out.row.own.lt k hk).2) HD2.out.2 HN.out HD2.out.1 hown4 hg4 (by simpa using hw4)
            have hrow : ∀ k, v.ownBlock = some k → w.heap.size + 3 ≤ k ∧ k < wr.heap.size := fun k hk => ⟨(BS_1.out.row.own.lt k hk).1, (HR.out.row.own.lt k hk).2⟩
            have H4 : Hid (Below w.heap.size w w4 ∧ Nod (w.heap.size + 1) zeroD (.slice none 0 0) w4 ∧ Nod (w.heap.size + 1 + 1) ⟨4, 0, ⟨#[]⟩, 0, 0, []⟩ v w4) := ⟨(BS_1.out.old.alloc (by omega) _).grown hg4 (by simp; omega) (fun k hk => by have := hrow k hk; omega), (BS_1.out.res.alloc _).grown hg4 (fun e => by have := hrow _ e.symm; omega), (BS_1.out.out.alloc _).grown hg4 (fun e => by have := hrow _ e.symm; omega)⟩
            have hS4 : w4.heap[wr.heap.size]? = some (.cells #[.int .i64 kid.kind, .int .i64 kid.n, .string kid.name, .int .i64 kid.stamp, .int .i64 kid.lib, .slice a' kid.kids.length cap'] 82 (0, 0)) := (hg4.block _ (by simp; omega) (fun e => by have := hrow _ e.symm; omega)).trans hS
            clear hown4 hg4 hw4 hrow HD2
            show K _ w4
            refine hK.out _ _ hS4 (fun hS => ?_)
            clear hK K
            refine wpAnyH_take (i := 6) (oi := { dst := some 38, op := Op.fieldAddr 82 (Operand.tmp 3) 5, type := 0, pos := _, after := _, guard := none }) (v := .pointer (some ⟨w.heap.size + 1 + 1, 5, none⟩)) rfl (by kernel_rfl) (by kernel_rfl) (by kernel_rfl) (fun _ _ _ h => h) (Or.inl ⟨by rfl, fun u hu => by go_simp⟩) hS ?_
            simp only [Act.put, List.setIfInBounds_toArray, List.set_cons_zero, List.set_cons_succ]
            refine wpAnyH_ready (rs := [7]) (by kernel_rfl) (by simp) (AllReadyH.cons (o := { dst := none, op := Op.store 80 (Operand.tmp 38) (Operand.tmp 37), type := 0, pos := _, after := _, guard := none }) rfl (fun K hK => ?_) AllReadyH.nil)
            obtain ⟨sa, sn, sc, hsv⟩ := HROW.out.slice
            subst hsv
            obtain ⟨n0, n1, n2, n3, n4, n5, n6, nz⟩ := H4.out.2.2
            go_simp
            clear n0 n1 n2 n3 n4 n5 n6 nz
            have hke : Keep (w.heap.size + 1 + 1) w4 (w4.setCell ⟨w.heap.size + 1 + 1, 5, none⟩ (.slice sa sn sc)) := (Keep.refl _ _).setCell _ rfl _
            have HO := hidd (H4.out.2.2.set5 (.slice sa sn sc))
            have H5 : Hid (BS w (.slice sa sn sc) (es ++ [(rk, a2, cap2)]) (w4.setCell ⟨w.heap.size + 1 + 1, 5, none⟩ (.slice sa sn sc))) := ⟨H4.out.1.setCell (p := ⟨w.heap.size + 1 + 1, 5, none⟩) (by show w.heap.size ≤ w.heap.size + 1 + 1; omega) _, H4.out.2.1.keep hke (by omega), HO.out, RowC.keep HROW.out hke (by omega)⟩
            have hS5 : (w4.setCell ⟨w.heap.size + 1 + 1, 5, none⟩ (.slice sa sn sc)).heap[wr.heap.size]? = some (.cells #[.int .i64 kid.kind, .int .i64 kid.n, .string kid.name, .int .i64 kid.stamp, .int .i64 kid.lib, .slice a' kid.kids.length cap'] 82 (0, 0)) := (hke.block _ (Array.getElem?_eq_some_iff.1 hS).1 (by simp; omega)).trans hS
            change K _ (w4.setCell ⟨w.heap.size + 1 + 1, 5, none⟩ (.slice sa sn sc))
            generalize w4.setCell ⟨w.heap.size + 1 + 1, 5, none⟩ (.slice sa sn sc) = w5 at H5 hS5 ⊢
            clear HO hke H4 HROW
            refine hK.out _ _ hS5 (fun hS => ?_)
            clear hK K
            refine wpAnyH_done (by kernel_rfl) ?_ _
            go_wp2_with fail
            go_roundw
            case rel => exact ⟨j + 1, _, _, by omega, by go_num, by rw [TK.out, List.map_append, HSM.out]; rfl, H5.out⟩
            case measure => simp [intOf]; omega
          · go_simp
            have hb2 : Below w2.heap.size w2 (w2.alloc (.cells #[.int .i64 rk.kind, .int .i64 rk.n, .string rk.name, .int .i64 rk.stamp, .int .i64 rk.lib, .slice a2 rk.kids.length cap2] 82)) := (Below.refl _ _).alloc (Nat.le_refl _) _
            have hS2 : (w2.alloc (.cells #[.int .i64 rk.kind, .int .i64 rk.n, .string rk.name, .int .i64 rk.stamp, .int .i64 rk.lib, .slice a2 rk.kids.length cap2] 82)).heap[wr.heap.size]? = some (.cells #[.int .i64 kid.kind, .int .i64 kid.n, .string kid.name, .int .i64 kid.stamp, .int .i64 kid.lib, .slice a' kid.kids.length cap'] 82 (0, 0)) := (hb2.block _ (Array.getElem?_eq_some_iff.1 hS).1).trans hS
            change K _ (w2.alloc (.cells #[.int .i64 rk.kind, .int .i64 rk.n, .string rk.name, .int .i64 rk.stamp, .int .i64 rk.lib, .slice a2 rk.kids.length cap2] 82))
            refine hK.out _ _ hS2 (fun hS => ?_)
            clear hK K
            clear hb2
            refine wpAnyH_ready (rs := [1]) (by kernel_rfl) (by simp) (AllReadyH.cons (o := { dst := some 33, op := Op.load 80 (Operand.tmp 32), type := 80, pos := _, after := _, guard := none }) rfl (fun K hK => ?_) AllReadyH.nil)
            have zo := (BS_1.out.below ((Below.refl _ _).alloc (Nat.le_refl _) (.cells #[.int .i64 rk.kind, .int .i64 rk.n, .string rk.name, .int .i64 rk.stamp, .int .i64 rk.lib, .slice a2 rk.kids.length cap2] 82))).out.q5
            go_simp
            clear zo
            refine hK.out _ _ hS (fun hS => ?_)
            clear hK K
            refine wpAnyH_ready (rs := [5]) (by kernel_rfl) (by simp) (AllReadyH.cons (o := { dst := some 37, op := Op.call { callee := Callee.builtin Builtin.append, args := #[Operand.tmp 33, Operand.tmp 36], argTypes := #[80, 80] }, type := 80, pos := _, after := _, guard := none }) rfl (fun K hK => ?_) AllReadyH.nil)
            obtain ⟨i0, hinf, hz0, hz1, hz2⟩ := info_parts infoDat
            refine step_append_where rfl (.tmp 33) (.tmp 36) 80 rfl (w.heap.size + 3) 82 i0 _ 6 72 Tryz.underlying80 hinf hz0 hz1 hz2 rfl (by decide) v es.length (flat es) rfl (by exact BS_1.out.row.own.alloc _) ⟨w2.heap.size, 0, none⟩ 1 1 [.int .i64 rk.kind, .int .i64 rk.n, .string rk.name, .int .i64 rk.stamp, .int .i64 rk.lib, .slice a2 rk.kids.length cap2] rfl rfl ?_ ?_ (by decide) ?_ ?_ ?_ ?_
            · intro q u hq
              have hcell := World.cell?_alloc_mark w2 #[.int .i64 rk.kind, .int .i64 rk.n, .string rk.name, .int .i64 rk.stamp, .int .i64 rk.lib, .slice a2 rk.kids.length cap2] 82 (0, 0) q
              have hadd := addr_add w2.heap.size q
              rw [hadd, hcell]
              simpa using hq
            · intro u hu
              simp at hu
              rcases hu with rfl | rfl | rfl | rfl | rfl | rfl <;> rfl
            · have := HES.out; unfold maxLen; omega
            · have := HES.out; omega
            · simp; omega
            intro v' w4 hown4 hg4 hw4
            have HROW : Hid (RowC (w.heap.size + 3) v' (es ++ [(rk, a2, cap2)]) w4) := RowC.push (f := f2) (wr := wr) (w := w2) _ BS_1.out.row (by omega) (fun k hk => (HR.out.row.own.lt k hk).2) HD2.out.2 HN.out HD2.out.1 hown4 hg4 (by simpa using hw4)
            have hrow : ∀ k, v.ownBlock = some k → w.heap.size + 3 ≤ k ∧ k < wr.heap.size := fun k hk => ⟨(BS_1.out.row.own.lt k hk).1, (HR.out.row.own.lt k hk).2⟩
            have H4 : Hid (Below w.heap.size w w4 ∧ Nod (w.heap.size + 1) zeroD (.slice none 0 0) w4 ∧ Nod (w.heap.size + 1 + 1) ⟨4, 0, ⟨#[]⟩, 0, 0, []⟩ v w4) := ⟨(BS_1.out.old.alloc (by omega) _).grown hg4 (by simp; omega) (fun k hk => by have := hrow k hk; omega), (BS_1.out.res.alloc _).grown hg4 (fun e => by have := hrow _ e.symm; omega), (BS_1.out.out.alloc _).grown hg4 (fun e => by have := hrow _ e.symm; omega)⟩
            have hS4 : w4.heap[wr.heap.size]? = some (.cells #[.int .i64 kid.kind, .int .i64 kid.n, .string kid.name, .int .i64 kid.stamp, .int .i64 kid.lib, .slice a' kid.kids.length cap'] 82 (0, 0)) := (hg4.block _ (by simp; omega) (fun e => by have := hrow _ e.symm; omega)).trans hS
            clear hown4 hg4 hw4 hrow HD2
            show K _ w4
            refine hK.out _ _ hS4 (fun hS => ?_)
            clear hK K
            refine wpAnyH_take (i := 6) (oi := { dst := some 38, op := Op.fieldAddr 82 (Operand.tmp 3) 5, type := 0, pos := _, after := _, guard := none }) (v := .pointer (some ⟨w.heap.size + 1 + 1, 5, none⟩)) rfl (by kernel_rfl) (by kernel_rfl) (by kernel_rfl) (fun _ _ _ h => h) (Or.inl ⟨by rfl, fun u hu => by go_simp⟩) hS ?_
            simp only [Act.put, List.setIfInBounds_toArray, List.set_cons_zero, List.set_cons_succ]
            refine wpAnyH_ready (rs := [7]) (by kernel_rfl) (by simp) (AllReadyH.cons (o := { dst := none, op := Op.store 80 (Operand.tmp 38) (Operand.tmp 37), type := 0, pos := _, after := _, guard := none }) rfl (fun K hK => ?_) AllReadyH.nil)
            obtain ⟨sa, sn, sc, hsv⟩ := HROW.out.slice
            subst hsv
            obtain ⟨n0, n1, n2, n3, n4, n5, n6, nz⟩ := H4.out.2.2
            go_simp
            clear n0 n1 n2 n3 n4 n5 n6 nz
            have hke : Keep (w.heap.size + 1 + 1) w4 (w4.setCell ⟨w.heap.size + 1 + 1, 5, none⟩ (.slice sa sn sc)) := (Keep.refl _ _).setCell _ rfl _
            have HO := hidd (H4.out.2.2.set5 (.slice sa sn sc))
            have H5 : Hid (BS w (.slice sa sn sc) (es ++ [(rk, a2, cap2)]) (w4.setCell ⟨w.heap.size + 1 + 1, 5, none⟩ (.slice sa sn sc))) := ⟨H4.out.1.setCell (p := ⟨w.heap.size + 1 + 1, 5, none⟩) (by show w.heap.size ≤ w.heap.size + 1 + 1; omega) _, H4.out.2.1.keep hke (by omega), HO.out, RowC.keep HROW.out hke (by omega)⟩
            have hS5 : (w4.setCell ⟨w.heap.size + 1 + 1, 5, none⟩ (.slice sa sn sc)).heap[wr.heap.size]? = some (.cells #[.int .i64 kid.kind, .int .i64 kid.n, .string kid.name, .int .i64 kid.stamp, .int .i64 kid.lib, .slice a' kid.kids.length cap'] 82 (0, 0)) := (hke.block _ (Array.getElem?_eq_some_iff.1 hS).1 (by simp; omega)).trans hS
            change K _ (w4.setCell ⟨w.heap.size + 1 + 1, 5, none⟩ (.slice sa sn sc))
            generalize w4.setCell ⟨w.heap.size + 1 + 1, 5, none⟩ (.slice sa sn sc) = w5 at H5 hS5 ⊢
            clear HO hke H4 HROW
            refine hK.out _ _ hS5 (fun hS => ?_)
            clear hK K
            refine wpAnyH_done (by kernel_rfl) ?_ _
            go_wp2_with fail
            go_roundw
            case rel => exact ⟨j + 1, _, _, by omega, by go_num, by rw [TK.out, List.map_append, HSM.out]; rfl, H5.out⟩
            case measure => simp [intOf]; omega
      · obtain rfl : j = ks.length := by omega
        obtain ⟨ao, cp, f', hv, hcp, hdc⟩ := HR.out.row.lie (by have := HES.out; omega)
        have e2 : es.map (·.1) = ks.map bareQ := by
          have := HSM.out
          rwa [List.take_length] at this
        rw [e2] at hv hcp hdc
        rw [List.length_map] at hv
        subst hv
        have END := hidd (bare_end (k := 4) (n := 0) (nm := ⟨#[]⟩) (st := 0) (lb := 0) (len := ks.length) (cap := cp) (List.length_map _).symm HR.out.old HR.out.res hdc hcp)
        obtain ⟨p, p0, p1, p2, p3, p4, p5, pz⟩ := HR.out.out
        obtain ⟨q, q0, q1, q2, q3, q4, q5, qz⟩ := HR.out.res
        simp only [zeroD, emS] at p0 p1 p2 p3 p4 p5 q0 q1 q2 q3 q4 q5
        go_wp2_with fail
        clear p p0 p1 p2 p3 p4 p5 pz q q0 q1 q2 q3 q4 q5 qz
        exact bodyPost_ret (ret46 END.out.1 rfl) rfl END.out.2
end Go.Proofs.YthikdpclifeonaaGreatDoor
