/- Chapter 3: small lemmas of the laws. Chapter 3's laws: a declaration is made, its data where they were and in blocks of its own. Chapter 3's laws: LibElse's own functions. -/
import Derived.Test.YtonafbennobgdaaGreatDoorK02
import Derived.Test.YtonafbennobgdaaGreatDoorK42
namespace Go.Proofs.YtonafbennobgdaaGreatDoor
section
set_option linter.unusedVariables false
set_option linter.unusedSimpArgs false
open Go.RowKit

theorem Dn.made (W : World) (es : List (Dat × Option Addr × Nat)) (hl : es.length ≤ 100) (h : ∀ e ∈ es, e.1.name.size ≤ maxLen ∧ e.1.kids.length ≤ e.2.2 ∧ ∃ f, Dn W f e.2.1 e.1.kids) :
    ∃ f, Dn (W.alloc (.cells (flat es).toArray 26)) f (some ⟨W.heap.size, 0, none⟩) (es.map (·.1)) := by
  have hr := RowD.made W es (by simp [maxLen]; omega) h
  obtain ⟨a, cap, f, hv, hc, hd⟩ := hr.lieN (by omega)
  simp at hv
  rw [hv.1]
  exact ⟨f, hd⟩
theorem lib0_much : Inv lib0 ∧ seOkL lib0.imports := ⟨⟨by simp [lib0], by simp [lib0], by simp [lib0]⟩, by simp [lib0, seOkL]⟩
theorem libOf_much (E : Env) (d : Dat) : Inv (libOf (parseF E d)) ∧ seOkL (libOf (parseF E d)).imports := by
  cases h : parseF E d with
  | ok s => exact parseF_much E d s h
  | no x => exact lib0_much
theorem RowD.fresh (W : World) : RowD W.heap.size (.slice (some ⟨W.heap.size, 0, none⟩) 0 0) [] (W.alloc (.cells #[] 26)) := by
  have := RowD.made W [] (Nat.zero_le _) (by simp)
  simpa [flat] using this
end
section
set_option linter.unusedVariables false
set_option linter.unusedSimpArgs false
open Go.RowKit

theorem Dc.atX {ok : Nat → Prop} {w : World} {f : Nat} {a : Option Addr} {ds : List Dat} (h : Dc ok w f a ds) (h0 : ds ≠ []) : ∃ f' b o, f = f' + 1 ∧ a = some ⟨b, o, none⟩ ∧ ok b ∧ ∀ (i : Nat) (d : Dat), ds[i]? = some d → ∃ a' cap,
      w.cell? ⟨b, o + i * 6, none⟩ = some (.int .i64 d.kind) ∧ w.cell? ⟨b, o + i * 6 + 1, none⟩ = some (.int .i64 d.n) ∧ w.cell? ⟨b, o + i * 6 + 2, none⟩ = some (.string d.name) ∧
      w.cell? ⟨b, o + i * 6 + 3, none⟩ = some (.int .i64 d.stamp) ∧ w.cell? ⟨b, o + i * 6 + 4, none⟩ = some (.int .i64 d.lib) ∧ w.cell? ⟨b, o + i * 6 + 5, none⟩ = some (.slice a' d.kids.length cap) ∧
      d.name.size ≤ maxLen ∧ d.kids.length ≤ cap ∧ Dc ok w f' a' d.kids := by
  cases f with
  | zero => exact absurd h h0
  | succ f =>
    obtain ⟨_, h | ⟨b, o, h1, h2, h3⟩⟩ := h
    · exact absurd h h0
    · exact ⟨f, b, o, rfl, h1, h2, h3⟩

theorem Dc.entsX {ok : Nat → Prop} {w : World} {f : Nat} {a : Option Addr} {l : List Dat} (h : Dc ok w f a l) (h0 : l ≠ []) : ∃ f' b o es, a = some ⟨b, o, none⟩ ∧ ok b ∧ es.map (·.1) = l ∧ (∀ j u, (flat es)[j]? = some u → w.cell? ⟨b, o + j, none⟩ = some u) ∧ ∀ e ∈ es, e.1.name.size ≤ maxLen ∧ e.1.kids.length ≤ e.2.2 ∧ Dc ok w f' e.2.1 e.1.kids := by
  obtain ⟨f', b, o, rfl, rfl, hb, hall⟩ := h.atX h0
  obtain ⟨es, hl, hes⟩ := pick_list (α := Dat × Option Addr × Nat) (fun i e => l[i]? = some e.1 ∧ (∀ k, k < 6 → w.cell? ⟨b, o + i * 6 + k, none⟩ = [Value.int .i64 e.1.kind, .int .i64 e.1.n, .string e.1.name, .int .i64 e.1.stamp, .int .i64 e.1.lib, .slice e.2.1 e.1.kids.length e.2.2][k]?) ∧ e.1.name.size ≤ maxLen ∧ e.1.kids.length ≤ e.2.2 ∧ Dc ok w f' e.2.1 e.1.kids) l.length (fun i hi => by
    obtain ⟨a', cap, k0, k1, k2, k3, k4, k5, hn, hc, hk⟩ := hall i l[i] (List.getElem?_eq_getElem hi)
    refine ⟨(l[i], a', cap), List.getElem?_eq_getElem hi, ?_, hn, hc, hk⟩
    intro k hk
    match k, hk with
    | 0, _ => simpa using k0
    | 1, _ => simpa using k1
    | 2, _ => simpa using k2
    | 3, _ => simpa using k3
    | 4, _ => simpa using k4
    | 5, _ => simpa using k5)
  refine ⟨f', b, o, es, rfl, hb, ?_, ?_, ?_⟩
  · apply List.ext_getElem?
    intro i
    rw [List.getElem?_map]
    cases he : es[i]? with
    | none =>
      have : l.length ≤ i := by rw [← hl]; exact List.getElem?_eq_none_iff.1 he
      rw [List.getElem?_eq_none this]
      rfl
    | some e => exact (hes i e he).1.symm
  · intro j u hu
    have hj : j < es.length * 6 := by
      have := (List.getElem?_eq_some_iff.1 hu).1
      rwa [flat_len] at this
    have hi : j / 6 < es.length := by omega
    have he := hes (j / 6) es[j / 6] (List.getElem?_eq_getElem hi)
    have hk := he.2.1 (j % 6) (by omega)
    have hf := flat_atD es[j / 6] es (j / 6) (List.getElem?_eq_getElem hi) (j % 6) (by omega)
    rw [show j / 6 * 6 + j % 6 = j by omega, hu] at hf
    rw [show o + j / 6 * 6 + j % 6 = o + j by omega, ← hf] at hk
    exact hk
  · intro e he
    obtain ⟨i, hi⟩ := List.getElem?_of_mem he
    exact (hes i e hi).2.2


theorem run_rowX {w : World} (ty : TypeId) {B : Nat} {v : Value} {es : List (Dat × Option Addr × Nat)} (hv : RowD B v es w) {ok : Nat → Prop} {F : Nat} {a : Option Addr} {l : List Dat} {cap : Nat}
    (hd : Dc ok w F a l) (hok : ∀ k, ok k → k < w.heap.size ∧ some k ≠ v.ownBlock) (hBw : B ≤ w.heap.size) (hl : (es.length + l.length) * 72 ≤ 140737488355328) :
    ∃ v' w' fs, (Builtin.append_ #[24, 24] ty #[v, .slice a l.length cap]).run Tryz.prog w = .ok v' w' ∧ fs.map (·.1) = l ∧ RowD B v' (es ++ fs) w' ∧ Below B w w' ∧ (∀ e ∈ fs, ∃ f, Dc ok w' f e.2.1 e.1.kids) ∧ (v'.ownBlock = v.ownBlock ∨ v'.ownBlock = some w.heap.size) := by
  obtain ⟨i0, hinf, hz0, hz1, hz2⟩ := info_parts infoDat
  by_cases hl0 : l = []
  · subst hl0
    obtain ⟨va, vc, f0, hva, hvc, _⟩ := hv.lie (by omega)
    rw [List.length_map] at hva hvc
    subst hva
    have hr2 : (Builtin.append_ #[24, 24] ty #[.slice va es.length vc, .slice a 0 cap]).run Tryz.prog w = .ok (.slice va es.length vc) w := by
      refine run_append_nothing w 24 24 ty 26 i0 Tryz.underlying24 hinf va es.length vc hvc (.slice a 0 cap) ?_
      cases a with
      | none => exact Src.ofNil w Tryz.underlying24 cap
      | some a => exact Src.ofSlice w Tryz.underlying24 a 0 cap [] (by simp) (by simp) (by simp)
    exact ⟨_, _, [], hr2, rfl, by rw [List.append_nil]; exact hv, Below.refl _ _, by simp, Or.inl rfl⟩
  · obtain ⟨f', b, oo, fs, rfl, hb, hes, hcell, hall⟩ := hd.entsX hl0
    have hlen : fs.length = l.length := by rw [← hes, List.length_map]
    obtain ⟨v', w', hr, h2, h3, h4⟩ := run_append_where (P := Tryz.prog) w B 24 ty 26 i0 _ 6 72 Tryz.underlying24 hinf hz0 hz1 hz2 rfl (by decide) v es.length (flat es) hv.own ⟨b, oo, none⟩ l.length cap (flat fs) (by rw [flat_len, hlen]) (by
      intro j u hu
      have hadd : (⟨b, oo, none⟩ : Addr).add j = ⟨b, oo + j, none⟩ := by unfold Addr.add; split <;> simp_all
      rw [hadd]
      exact hcell j u hu) (flat_one fs) (List.length_pos_iff.2 hl0) (by unfold maxLen; omega) hl hBw
    refine ⟨v', w', fs, hr, hes, hv.more (Below.refl _ _) (fun e he => ?_) (by rw [hlen]; exact h2) h3 h4, (Below.refl B w).grown h3 hBw (fun k hk => (hv.own.lt k hk).1), fun e he => ?_, h4⟩
    · obtain ⟨g1, g2, g3⟩ := hall e he
      exact ⟨g1, g2, f', Dc.stay (fun _ _ => rfl) (fun k hk => hok k hk) _ _ _ g3⟩
    · obtain ⟨g1, g2, g3⟩ := hall e he
      exact ⟨f', Dc.stay (fun k hk => h3.block k (hok k hk).1 (hok k hk).2) (fun k hk => hk) _ _ _ g3⟩
theorem wpList_rowX {w : World} {ops : Array Oper} {rest : List Oper} {o : Oper} {act : Act} {Q : Exit → Act → World → Prop} (hgd : o.guard = none) (s x : Operand)
    (ho : o.op = .call { callee := .builtin .append, args := #[s, x], argTypes := #[24, 24] })
    {B : Nat} {v : Value} {es : List (Dat × Option Addr × Nat)} (hv : RowD B v es w) {ok : Nat → Prop} {F : Nat} {a : Option Addr} {l : List Dat} {cap : Nat}
    (hs : act.eval s = v) (hx : act.eval x = .slice a l.length cap)
    (hd : Dc ok w F a l) (hok : ∀ k, ok k → k < w.heap.size ∧ some k ≠ v.ownBlock) (hBw : B ≤ w.heap.size) (hl : (es.length + l.length) * 72 ≤ 140737488355328)
    (h : ∀ v' w' fs, fs.map (·.1) = l → RowD B v' (es ++ fs) w' → Below B w w' → (∀ e ∈ fs, ∃ f, Dc ok w' f e.2.1 e.1.kids) → (v'.ownBlock = v.ownBlock ∨ v'.ownBlock = some w.heap.size) → wpList Tryz.prog ops Q rest (act.put o.dst v') w') : wpList Tryz.prog ops Q (o :: rest) act w := by
  refine wpList_plain hgd fun _ hK => ?_
  obtain ⟨v', w', fs, hrun, h2, h3, h4, h5, h6⟩ := run_rowX o.type hv (cap := cap) hd hok hBw hl
  unfold Oper.wp execOp
  simp only [ho, resolve, invoke, builtin, Sem.run_bind, Sem.run_pure, Result.andThen_ok, List.map_toArray, List.map_cons, List.map_nil, hs, hx, hrun]
  exact hK _ _ (h v' w' fs h2 h3 h4 h5 h6)
def ToldX (ok : Nat → Prop) (d : Dat) (w : World) (e : Ending) (w' : World) : Prop := Below w.heap.size w w' ∧ ∃ a cap f, e = .returned (dv d a cap) ∧ d.kids.length ≤ cap ∧ Dc (fun k => ok k ∨ (w.heap.size ≤ k ∧ k < w'.heap.size)) w' f a d.kids
theorem ret19 {ts : Array Value} {W : World} {R : Nat} {d : Dat} {v : Value} (h : Nod R d v W) (h6 : ts[4]? = some (.pointer (some ⟨R, 0, none⟩))) :
    (results Tryz.f19 ts).run Tryz.prog W = .ok (.agg #[.int .i64 d.kind, .int .i64 d.n, .string d.name, .int .i64 d.stamp, .int .i64 d.lib, v]) W := by
  obtain ⟨q, q0, q1, q2, q3, q4, q5, qz⟩ := h
  simp [results, Tryz.results19, go_sem, h6, q0, q1, q2, q3, q4, q5]
set_option maxRecDepth 100000 in
set_option maxHeartbeats 3200000 in
theorem wcl2_any (s : ByteArray) (l : List Dat) (a : Option Addr) (cap F : Nat) (ok : Nat → Prop) (w : World) (hs : s.size ≤ maxLen) (hd : Dc ok w F a l) (hok : ∀ k, ok k → k < w.heap.size) (hl : l.length ≤ 10000000) :
    Calls Tryz.prog 19 #[.string s, .slice a l.length cap] w (ToldX ok (liD (syD s :: l)) w) := by
  have N0 : Hid (Nod w.heap.size ⟨0, 0, ⟨#[]⟩, 0, 0, []⟩ (.slice none 0 0) _) := Nod.made w ⟨0, 0, ⟨#[]⟩, 0, 0, []⟩ (.slice none 0 0)
  obtain ⟨W1, hW1⟩ : ∃ W1, W1 = w.alloc (.cells #[.int .i64 0, .int .i64 0, .string ⟨#[]⟩, .int .i64 0, .int .i64 0, .slice none 0 0] 26) := ⟨_, rfl⟩
  have hb1 : Below w.heap.size w W1 := by rw [hW1]; exact (Below.refl _ _).alloc (Nat.le_refl _) _
  have hsz : W1.heap.size = w.heap.size + 1 := by rw [hW1]; simp
  have HW := hidd hW1.symm
  have N1 : Hid (Nod w.heap.size ⟨0, 0, ⟨#[]⟩, 0, 0, []⟩ (.slice none 0 0) W1) := by rw [hW1]; exact N0.out
  have HB1 : Hid (Below w.heap.size w W1 ∧ W1.heap.size = w.heap.size + 1) := ⟨hb1, hsz⟩
  have HD : Hid (∀ W, Below w.heap.size w W → Dc ok W F a l) := fun W hb => Dc.stay (fun k hk => hb.block k (hok k hk)) (fun _ h => h) _ _ _ hd
  have HOK := hidd hok
  have HL := hidd hl
  have SY : Hid (∀ W, Calls Tryz.prog 21 #[.string s] W fun e w' => e = .returned (dv (syD s) none 0) ∧ Below W.heap.size W w') := fun W => Sym_any s W
  obtain ⟨d, hdd⟩ : ∃ d, d = syD s := ⟨_, rfl⟩
  have HK : Hid (d.kids = [] ∧ d.name.size ≤ maxLen) := by rw [hdd]; exact ⟨rfl, hs⟩
  rw [← hdd] at SY ⊢
  obtain ⟨n, hn⟩ : ∃ n, n = l.length := ⟨_, rfl⟩
  rw [← hn] at ⊢
  have HN := hidd hn
  clear hd hok hl N0 hW1 hb1 hsz hdd hs hn
  unfold dv at SY
  go_enter Tryz.func19, Tryz.ntmps19
  go_upto_region 1 with fail
  rw [HW.out]
  clear HW
  go_wp2_with fail
  refine (SY.out W1).mono ?_
  rintro e w2 ⟨rfl, hb2⟩
  have HR := hidd (RowD.made w2 [(d, none, 0)] (by simp [maxLen]) (by
    intro e he
    simp at he
    subst he
    exact ⟨HK.out.2, by simp [HK.out.1], 0, HK.out.1⟩))
  have HB2 : Hid (Below w.heap.size w w2 ∧ Below W1.heap.size W1 w2) := ⟨HB1.out.1.trans (hb2.mono HB1.out.1.size), hb2⟩
  have HB3 : Hid (Below w.heap.size w (w2.alloc (.cells #[.int .i64 d.kind, .int .i64 d.n, .string d.name, .int .i64 d.stamp, .int .i64 d.lib, .slice none d.kids.length 0] 26)) ∧ Below w2.heap.size w2 (w2.alloc (.cells #[.int .i64 d.kind, .int .i64 d.n, .string d.name, .int .i64 d.stamp, .int .i64 d.lib, .slice none d.kids.length 0] 26))) := ⟨HB2.out.1.alloc HB2.out.1.size _, (Below.refl _ _).alloc (Nat.le_refl _) _⟩
  clear hb2
  go_wp2_with (at_builtin; refine wpList_rowX rfl _ _ rfl (B := w2.heap.size) (v := .slice (some ⟨w2.heap.size, 0, none⟩) 1 1) (es := [(d, none, 0)]) (by exact HR.out) (ok := ok) (F := F) (a := a) (l := l) (cap := cap) rfl (by rw [← HN.out]; rfl) (HD.out _ HB3.out.1) (fun k hk => ⟨Nat.lt_of_lt_of_le (HOK.out k hk) HB3.out.1.size, fun e => by have h1 := HOK.out k hk; have h2 := HB2.out.1.size; have h3 : k = w2.heap.size := (by simpa [Value.ownBlock] using e); omega⟩) HB3.out.2.size (by have := HL.out; simp; omega) ?_)
  intro v' w4 fs hfs hr4 hb4 hkf hwo
  obtain ⟨va, vc, vf, hva, hvc, hdd⟩ := hr4.lieG (by have h1 := congrArg List.length hfs; have h2 := HL.out; rw [List.length_map] at h1; simp; omega) (fun b => ok b ∨ (w.heap.size < b ∧ b < w4.heap.size)) (fun g hg => by
    have h1 := hr4.own.lt g hg
    have h2 := HB1.out.2
    have h3 := HB2.out.2.size
    exact Or.inr ⟨by omega, h1.2⟩) (fun e he => by
    rcases List.mem_cons.1 he with rfl | he
    · exact ⟨0, HK.out.1⟩
    · obtain ⟨f, hf⟩ := hkf e.1 e.2.1 e.2.2 he
      have h3 := HB2.out.1.size
      have h4 := HB3.out.2.size
      have h5 := hb4.size
      exact ⟨f, Dc.stay (fun _ _ => rfl) (fun k hk => Or.inl hk) f _ _ hf⟩)
  have hmp : List.map (fun x : Dat × Option Addr × Nat => x.1) ((d, none, 0) :: fs) = d :: l := by simp [hfs]
  rw [hmp] at hva hvc hdd
  subst hva
  have HB4 : Hid (Below w.heap.size w w4 ∧ Below W1.heap.size W1 w4) := by
    have h2 : Below W1.heap.size W1 w4 := HB2.out.2.trans ((HB3.out.2.trans hb4).mono HB2.out.2.size)
    exact ⟨HB1.out.1.trans (h2.mono HB1.out.1.size), h2⟩
  have LI := hidd (List_any (d :: l) va vc w4)
  have HQ : Hid ((d :: l).length ≤ vc ∧ Dc (fun b => ok b ∨ (w.heap.size < b ∧ b < w4.heap.size)) w4 vf va (d :: l)) := ⟨hvc, hdd⟩
  clear hr4 hkf hwo hb4 hfs hvc hdd hmp HR HB3 HB2 SY
  unfold dv at LI
  obtain ⟨m, hm⟩ : ∃ m, m = (d :: l).length := ⟨_, rfl⟩
  rw [← hm] at LI ⊢
  have HM := hidd hm
  clear hm
  go_wp2_with fail
  refine LI.out.mono ?_
  rintro e w5 ⟨rfl, hb5⟩
  have N5 : Nod w.heap.size ⟨0, 0, ⟨#[]⟩, 0, 0, []⟩ (.slice none 0 0) w5 := (N1.out.after HB4.out.2).after (by exact hb5)
  have HB5 : Hid (Below w.heap.size w w5 ∧ Below w4.heap.size w4 w5) := ⟨HB4.out.1.trans (hb5.mono HB4.out.1.size), hb5⟩
  have NH := hidd N5
  have HX : Hid (w.heap.size < w4.heap.size) := by have := HB4.out.2.size; have := HB1.out.2; show _ < _; omega
  obtain ⟨q, q0, q1, q2, q3, q4, q5, qz⟩ := N5
  simp only at q0 q1 q2 q3 q4 q5
  clear hb5 LI
  go_wp2_with fail
  refine bodyPost_ret (ret19 (NH.out.store (liD (d :: l)) (.slice va (d :: l).length vc)) rfl) rfl ?_
  have hh := six_heap w5 w.heap.size (.int .i64 4) (.int .i64 0) (.string ⟨#[]⟩) (.int .i64 0) (.int .i64 0) (.slice va (d :: l).length vc)
  refine ⟨?_, va, vc, vf, rfl, HQ.out.1, ?_⟩
  · exact below_sixN HB5.out.1 (Nat.le_refl _) _ _ _ _ _ _
  · have hx := HX.out
    have hwl := HB4.out.1.size
    refine Dc.stay (fun k hk => ?_) (fun k hk => ?_) vf _ _ HQ.out.2
    · have h1 : k < w4.heap.size ∧ k ≠ w.heap.size := by
        rcases hk with hk | hk
        · have := HOK.out k hk
          omega
        · omega
      exact (hh.1 k h1.2).trans (HB5.out.2.block k h1.1)
    · rcases hk with hk | hk
      · exact Or.inl hk
      · have := HB5.out.2.size
        exact Or.inr ⟨Nat.le_of_lt hk.1, hh.2.symm ▸ Nat.lt_of_lt_of_le hk.2 this⟩
end
section
set_option linter.unusedVariables false
set_option linter.unusedSimpArgs false
open Go.RowKit

theorem ret22 {ts : Array Value} {W : World} {R : Nat} {d : Dat} {v : Value} (h : Nod R d v W) (h6 : ts[4]? = some (.pointer (some ⟨R, 0, none⟩))) :
    (results Tryz.f22 ts).run Tryz.prog W = .ok (.agg #[.int .i64 d.kind, .int .i64 d.n, .string d.name, .int .i64 d.stamp, .int .i64 d.lib, v]) W := by
  obtain ⟨q, q0, q1, q2, q3, q4, q5, qz⟩ := h
  simp [results, Tryz.results22, go_sem, h6, q0, q1, q2, q3, q4, q5]
set_option maxRecDepth 100000 in
set_option maxHeartbeats 3200000 in
theorem wcl22_any (s : ByteArray) (l : List Dat) (a : Option Addr) (cap F : Nat) (ok : Nat → Prop) (w : World) (hs : s.size ≤ maxLen) (hd : Dc ok w F a l) (hok : ∀ k, ok k → k < w.heap.size) (hl : l.length * 72 ≤ 140737488355256) :
    Calls Tryz.prog 22 #[.string s, .slice a l.length cap] w (ToldX ok (liD (syD s :: l)) w) := by
  have N0 : Hid (Nod w.heap.size ⟨0, 0, ⟨#[]⟩, 0, 0, []⟩ (.slice none 0 0) _) := Nod.made w ⟨0, 0, ⟨#[]⟩, 0, 0, []⟩ (.slice none 0 0)
  obtain ⟨W1, hW1⟩ : ∃ W1, W1 = w.alloc (.cells #[.int .i64 0, .int .i64 0, .string ⟨#[]⟩, .int .i64 0, .int .i64 0, .slice none 0 0] 26) := ⟨_, rfl⟩
  have hb1 : Below w.heap.size w W1 := by rw [hW1]; exact (Below.refl _ _).alloc (Nat.le_refl _) _
  have hsz : W1.heap.size = w.heap.size + 1 := by rw [hW1]; simp
  have HW := hidd hW1.symm
  have N1 : Hid (Nod w.heap.size ⟨0, 0, ⟨#[]⟩, 0, 0, []⟩ (.slice none 0 0) W1) := by rw [hW1]; exact N0.out
  have HB1 : Hid (Below w.heap.size w W1 ∧ W1.heap.size = w.heap.size + 1) := ⟨hb1, hsz⟩
  have HD : Hid (∀ W, Below w.heap.size w W → Dc ok W F a l) := fun W hb => Dc.stay (fun k hk => hb.block k (hok k hk)) (fun _ h => h) _ _ _ hd
  have HOK := hidd hok
  have HL := hidd hl
  have SY : Hid (∀ W, Calls Tryz.prog 21 #[.string s] W fun e w' => e = .returned (dv (syD s) none 0) ∧ Below W.heap.size W w') := fun W => Sym_any s W
  obtain ⟨d, hdd⟩ : ∃ d, d = syD s := ⟨_, rfl⟩
  have HK : Hid (d.kids = [] ∧ d.name.size ≤ maxLen) := by rw [hdd]; exact ⟨rfl, hs⟩
  rw [← hdd] at SY ⊢
  obtain ⟨n, hn⟩ : ∃ n, n = l.length := ⟨_, rfl⟩
  rw [← hn] at ⊢
  have HN := hidd hn
  clear hd hok hl N0 hW1 hb1 hsz hdd hs hn
  unfold dv at SY
  go_enter Tryz.func22, Tryz.ntmps22
  go_upto_region 1 with fail
  rw [HW.out]
  clear HW
  go_wp2_with fail
  refine (SY.out W1).mono ?_
  rintro e w2 ⟨rfl, hb2⟩
  have HR := hidd (RowD.made w2 [(d, none, 0)] (by simp [maxLen]) (by
    intro e he
    simp at he
    subst he
    exact ⟨HK.out.2, by simp [HK.out.1], 0, HK.out.1⟩))
  have HB2 : Hid (Below w.heap.size w w2 ∧ Below W1.heap.size W1 w2) := ⟨HB1.out.1.trans (hb2.mono HB1.out.1.size), hb2⟩
  have HB3 : Hid (Below w.heap.size w (w2.alloc (.cells #[.int .i64 d.kind, .int .i64 d.n, .string d.name, .int .i64 d.stamp, .int .i64 d.lib, .slice none d.kids.length 0] 26)) ∧ Below w2.heap.size w2 (w2.alloc (.cells #[.int .i64 d.kind, .int .i64 d.n, .string d.name, .int .i64 d.stamp, .int .i64 d.lib, .slice none d.kids.length 0] 26))) := ⟨HB2.out.1.alloc HB2.out.1.size _, (Below.refl _ _).alloc (Nat.le_refl _) _⟩
  clear hb2
  go_wp2_with (at_builtin; refine wpList_rowX rfl _ _ rfl (B := w2.heap.size) (v := .slice (some ⟨w2.heap.size, 0, none⟩) 1 1) (es := [(d, none, 0)]) (by exact HR.out) (ok := ok) (F := F) (a := a) (l := l) (cap := cap) rfl (by rw [← HN.out]; rfl) (HD.out _ HB3.out.1) (fun k hk => ⟨Nat.lt_of_lt_of_le (HOK.out k hk) HB3.out.1.size, fun e => by have h1 := HOK.out k hk; have h2 := HB2.out.1.size; have h3 : k = w2.heap.size := (by simpa [Value.ownBlock] using e); omega⟩) HB3.out.2.size (by have := HL.out; simp; omega) ?_)
  intro v' w4 fs hfs hr4 hb4 hkf hwo
  obtain ⟨va, vc, vf, hva, hvc, hdd⟩ := hr4.lieG (by have h1 := congrArg List.length hfs; have h2 := HL.out; rw [List.length_map] at h1; simp; omega) (fun b => ok b ∨ (w.heap.size < b ∧ b < w4.heap.size)) (fun g hg => by
    have h1 := hr4.own.lt g hg
    have h2 := HB1.out.2
    have h3 := HB2.out.2.size
    exact Or.inr ⟨by omega, h1.2⟩) (fun e he => by
    rcases List.mem_cons.1 he with rfl | he
    · exact ⟨0, HK.out.1⟩
    · obtain ⟨f, hf⟩ := hkf e.1 e.2.1 e.2.2 he
      have h3 := HB2.out.1.size
      have h4 := HB3.out.2.size
      have h5 := hb4.size
      exact ⟨f, Dc.stay (fun _ _ => rfl) (fun k hk => Or.inl hk) f _ _ hf⟩)
  have hmp : List.map (fun x : Dat × Option Addr × Nat => x.1) ((d, none, 0) :: fs) = d :: l := by simp [hfs]
  rw [hmp] at hva hvc hdd
  subst hva
  have HB4 : Hid (Below w.heap.size w w4 ∧ Below W1.heap.size W1 w4) := by
    have h2 : Below W1.heap.size W1 w4 := HB2.out.2.trans ((HB3.out.2.trans hb4).mono HB2.out.2.size)
    exact ⟨HB1.out.1.trans (h2.mono HB1.out.1.size), h2⟩
  have LI := hidd (List_any (d :: l) va vc w4)
  have HQ : Hid ((d :: l).length ≤ vc ∧ Dc (fun b => ok b ∨ (w.heap.size < b ∧ b < w4.heap.size)) w4 vf va (d :: l)) := ⟨hvc, hdd⟩
  clear hr4 hkf hwo hb4 hfs hvc hdd hmp HR HB3 HB2 SY
  unfold dv at LI
  obtain ⟨m, hm⟩ : ∃ m, m = (d :: l).length := ⟨_, rfl⟩
  rw [← hm] at LI ⊢
  have HM := hidd hm
  clear hm
  go_wp2_with fail
  refine LI.out.mono ?_
  rintro e w5 ⟨rfl, hb5⟩
  have N5 : Nod w.heap.size ⟨0, 0, ⟨#[]⟩, 0, 0, []⟩ (.slice none 0 0) w5 := (N1.out.after HB4.out.2).after (by exact hb5)
  have HB5 : Hid (Below w.heap.size w w5 ∧ Below w4.heap.size w4 w5) := ⟨HB4.out.1.trans (hb5.mono HB4.out.1.size), hb5⟩
  have NH := hidd N5
  have HX : Hid (w.heap.size < w4.heap.size) := by have := HB4.out.2.size; have := HB1.out.2; show _ < _; omega
  obtain ⟨q, q0, q1, q2, q3, q4, q5, qz⟩ := N5
  simp only at q0 q1 q2 q3 q4 q5
  clear hb5 LI
  go_wp2_with fail
  refine bodyPost_ret (ret22 (NH.out.store (liD (d :: l)) (.slice va (d :: l).length vc)) rfl) rfl ?_
  have hh := six_heap w5 w.heap.size (.int .i64 4) (.int .i64 0) (.string ⟨#[]⟩) (.int .i64 0) (.int .i64 0) (.slice va (d :: l).length vc)
  refine ⟨?_, va, vc, vf, rfl, HQ.out.1, ?_⟩
  · exact below_sixN HB5.out.1 (Nat.le_refl _) _ _ _ _ _ _
  · have hx := HX.out
    have hwl := HB4.out.1.size
    refine Dc.stay (fun k hk => ?_) (fun k hk => ?_) vf _ _ HQ.out.2
    · have h1 : k < w4.heap.size ∧ k ≠ w.heap.size := by
        rcases hk with hk | hk
        · have := HOK.out k hk
          omega
        · omega
      exact (hh.1 k h1.2).trans (HB5.out.2.block k h1.1)
    · rcases hk with hk | hk
      · exact Or.inl hk
      · have := HB5.out.2.size
        exact Or.inr ⟨Nat.le_of_lt hk.1, hh.2.symm ▸ Nat.lt_of_lt_of_le hk.2 this⟩

theorem wcl22N (s : ByteArray) (l : List Dat) (a : Option Addr) (cap F : Nat) (w : World) (hs : s.size ≤ maxLen) (hd : Dn w F a l) (hl : l.length * 72 ≤ 140737488355256) :
    Calls Tryz.prog 22 #[.string s, .slice a l.length cap] w (ToldN (liD (syD s :: l)) w) := by
  refine (wcl22_any s l a cap F (fun k => k < w.heap.size) w hs hd (fun _ h => h) hl).mono fun e w' h => ?_
  obtain ⟨hb, a', c', f, he, hc, hdd⟩ := h
  refine ⟨hb, a', c', f, he, hc, Dc.stay (fun _ _ => rfl) (fun k hk => ?_) _ _ _ hdd⟩
  rcases hk with hk | hk
  · exact Nat.lt_of_lt_of_le hk hb.size
  · exact hk.2
theorem ret23 {ts : Array Value} {W : World} {R : Nat} {d : Dat} {v : Value} (h : Nod R d v W) (h6 : ts[3]? = some (.pointer (some ⟨R, 0, none⟩))) :
    (results Tryz.f23 ts).run Tryz.prog W = .ok (.agg #[.int .i64 d.kind, .int .i64 d.n, .string d.name, .int .i64 d.stamp, .int .i64 d.lib, v]) W := by
  obtain ⟨q, q0, q1, q2, q3, q4, q5, qz⟩ := h
  simp [results, Tryz.results23, go_sem, h6, q0, q1, q2, q3, q4, q5]
set_option maxRecDepth 100000 in
set_option maxHeartbeats 3200000 in
theorem prog23 (p : Nat) (l : List Dat) (a : Option Addr) (cap F : Nat) (w : World) (hp : w.cell? ⟨p, 0, none⟩ = some (.func (.func 22) #[] #[])) (hd : Dn w F a l) (hl : l.length * 72 ≤ 140737488355256) :
    Calls Tryz.prog 23 #[.slice a l.length cap, .pointer (some ⟨p, 0, none⟩)] w (ToldN (progD l) w) := by
  have hpl := World.block_lt_of_cell? w ⟨p, 0, none⟩ hp
  simp only at hpl
  obtain ⟨W1, hW1⟩ : ∃ W1, W1 = w.alloc (.cells #[.int .i64 0, .int .i64 0, .string ⟨#[]⟩, .int .i64 0, .int .i64 0, .slice none 0 0] 26) := ⟨_, rfl⟩
  have hb1 : Below w.heap.size w W1 := by rw [hW1]; exact (Below.refl _ _).alloc (Nat.le_refl _) _
  have N1 : Hid (Nod w.heap.size ⟨0, 0, ⟨#[]⟩, 0, 0, []⟩ (.slice none 0 0) W1) := by rw [hW1]; exact Nod.made w ⟨0, 0, ⟨#[]⟩, 0, 0, []⟩ (.slice none 0 0)
  have c1 : W1.cell? ⟨p, 0, none⟩ = some (.func (.func 22) #[] #[]) := (hb1.cell (p := ⟨p, 0, none⟩) hpl).trans hp
  have hsz : W1.heap.size = w.heap.size + 1 := by rw [hW1]; simp
  have HW := hidd hW1.symm
  have WC := hidd (wcl22_any bProgram l a cap F (fun k => k < w.heap.size) W1 (by decide) (Dc.stay (fun k hk => hb1.block k hk) (fun _ h => h) _ _ _ hd) (fun k hk => Nat.lt_of_lt_of_le hk hb1.size) hl)
  have HB1 : Hid (Below w.heap.size w W1 ∧ W1.heap.size = w.heap.size + 1) := ⟨hb1, hsz⟩
  obtain ⟨n, hn⟩ : ∃ n, n = l.length := ⟨_, rfl⟩
  have e0 : progD l = liD (syD bProgram :: l) := rfl
  rw [e0]
  rw [← hn] at WC ⊢
  obtain ⟨d, hdd⟩ : ∃ d, d = liD (syD bProgram :: l) := ⟨_, rfl⟩
  rw [← hdd] at WC ⊢
  clear hpl hp hd hl hW1 hb1 hsz hn hdd e0
  go_enter Tryz.func23, Tryz.ntmps23
  go_upto_region 1 with fail
  rw [HW.out]
  clear HW
  go_wp2_with fail
  refine WC.out.mono ?_
  rintro e w2 ⟨hb2, da, dc, df, rfl, hdc, hdl⟩
  have N2 : Nod w.heap.size ⟨0, 0, ⟨#[]⟩, 0, 0, []⟩ (.slice none 0 0) w2 := N1.out.after hb2
  have HB2 : Hid (Below w.heap.size w w2) := HB1.out.1.trans (hb2.mono HB1.out.1.size)
  have HD2 : Hid (Dc (fun k => k < w2.heap.size ∧ k ≠ w.heap.size) w2 df da d.kids) := Dc.stay (fun _ _ => rfl) (fun k hk => by
    have h1 := HB1.out.2
    have h2 := hb2.size
    rcases hk with hk | hk
    · exact ⟨by omega, by omega⟩
    · exact ⟨hk.2, by omega⟩) _ _ _ hdl
  have HC2 := hidd hdc
  have NH := hidd N2
  obtain ⟨q, q0, q1, q2, q3, q4, q5, qz⟩ := N2
  simp only at q0 q1 q2 q3 q4 q5
  clear hb2 hdc hdl WC c1
  unfold dv
  go_wp2_with fail
  refine bodyPost_ret (ret23 (NH.out.store d (.slice da d.kids.length dc)) rfl) rfl ?_
  have hh := six_heap w2 w.heap.size (.int .i64 d.kind) (.int .i64 d.n) (.string d.name) (.int .i64 d.stamp) (.int .i64 d.lib) (.slice da d.kids.length dc)
  refine ⟨below_sixN HB2.out (Nat.le_refl _) _ _ _ _ _ _, da, dc, df, rfl, HC2.out, ?_⟩
  refine Dc.stay (fun k hk => hh.1 k hk.2) (fun k hk => ?_) df _ _ HD2.out
  show k < _
  exact hh.2.symm ▸ hk.1
end
end Go.Proofs.YtonafbennobgdaaGreatDoor
